"""Curtainsteps: tables of fair steps from one share of numbers to a wider one, costs, days, books and hedges."""
