"""Equations for steps from one share to another one, unchecked: a column for each pair of their pairs."""


def flow_rows(one, other):
    """Rows for the weights of one, rows for what all steps from each pair of it gain (nought), rows for other.

    Columns go by the pairs of one, then by those of other.
    """
    pairs = [(x, y) for x, _ in one for y, _ in other]
    numbers = [number for number, _ in one]
    reached = [number for number, _ in other]
    starts = [[1 if x == number else 0 for x, y in pairs] for number in numbers]
    gains = [[y - x if x == number else 0 for x, y in pairs] for number in numbers]
    ends = [[1 if y == number else 0 for x, y in pairs] for number in reached]
    return starts + gains + ends


def flow_sums(one, other):
    """What each of these rows makes."""
    return [weight for _, weight in one] + [(0, 1)] * len(one) + [weight for _, weight in other]
