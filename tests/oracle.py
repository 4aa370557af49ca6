"""The words of the document once more, told by Python's own fractions and by plain search."""

from fractions import Fraction
from itertools import combinations, product


def worth(pair):
    return Fraction(pair[0], pair[1])


def told(value):
    value = Fraction(value)
    return (value.numerator, value.denominator)


def share_of(weights):
    """A SHARE from a dict of numbers and what Fraction takes."""
    return tuple((number, told(weights[number])) for number in sorted(weights) if weights[number] != 0)


def table_of(weights):
    """A TABLE from a dict of pairs (X, Y) and what Fraction takes."""
    return tuple((x, y, told(weights[x, y])) for x, y in sorted(weights) if weights[x, y] != 0)


def total(share):
    return sum((worth(weight) for _, weight in share), Fraction(0))


def moment(share):
    return sum((number * worth(weight) for number, weight in share), Fraction(0))


def rest(share, mark):
    return sum(((number - mark) * worth(weight) for number, weight in share if number > mark), Fraction(0))


def lesser_marks(one, other):
    """All NUMBERS above which other has the lesser REST."""
    return [mark for mark in range(-100, 101) if rest(other, mark) < rest(one, mark)]


def wider(one, other):
    if total(one) != total(other) or moment(one) != moment(other):
        return False
    return lesser_marks(one, other) == []


def window(share, value):
    """Whether a SHARE is a WINDOW of another one."""
    if value == ():
        return False
    there = {number: worth(weight) for number, weight in share}
    here = {number: worth(weight) for number, weight in value}
    if any(number not in there or there[number] < here[number] for number in here):
        return False
    low, high = min(here), max(here)
    return all(here.get(number) == there[number] for number in there if low < number < high)


def windows(share, parts):
    """All WINDOWS of a SHARE whose WEIGHTS are whole parts of 1."""
    choices = [range(int(worth(weight) * parts) + 1) for _, weight in share]
    for choice in product(*choices):
        weights = {number: Fraction(many, parts) for (number, _), many in zip(share, choice)}
        value = share_of(weights)
        if window(share, value):
            yield value


def start(table):
    weights = {}
    for x, _, weight in table:
        weights[x] = weights.get(x, 0) + worth(weight)
    return share_of(weights)


def end(table):
    weights = {}
    for _, y, weight in table:
        weights[y] = weights.get(y, 0) + worth(weight)
    return share_of(weights)


def is_table(table):
    steps = [(x, y) for x, y, _ in table]
    if steps != sorted(set(steps)):
        return False
    drift = {}
    for x, y, weight in table:
        drift[x] = drift.get(x, 0) + worth(weight) * (y - x)
    return all(value == 0 for value in drift.values()) and all(worth(weight) > 0 for _, _, weight in table)


def bend(table):
    return sum((worth(weight) * x * y * y for x, y, weight in table), Fraction(0))


def crossings(table):
    steps = {(x, y) for x, y, _ in table}
    starts = sorted({x for x, _ in steps})
    ends = sorted({y for _, y in steps})
    return tuple(
        (x, x2, y, y2, y3)
        for x, x2 in product(starts, repeat=2) if x < x2
        for y, y2, y3 in product(ends, repeat=3)
        if y < y2 < y3 and {(x, y), (x, y3), (x2, y2)} <= steps
    )


def within(one, other):
    there = {number: worth(weight) for number, weight in other}
    return all(number in there and worth(weight) <= there[number] for number, weight in one)


def parts_of(share, parts):
    """All SHARES within another one whose WEIGHTS are whole parts of 1."""
    choices = [range(int(worth(weight) * parts) + 1) for _, weight in share]
    for choice in product(*choices):
        yield share_of({number: Fraction(many, parts) for (number, _), many in zip(share, choice)})


def reduced(rows):
    """Rows in echelon form, those that are nought left out; None if they contradict each other."""
    rows = [[Fraction(item) for item in row] for row in rows]
    found = []
    for column in range(len(rows[0]) - 1):
        pivots = [row for row in rows if row[column] != 0]
        if pivots:
            pivot = [item / pivots[0][column] for item in pivots[0]]
            rows = [row for row in rows if row is not pivots[0]]
            rows = [[a - row[column] * b for a, b in zip(row, pivot)] for row in rows]
            found = [[a - row[column] * b for a, b in zip(row, pivot)] for row in found] + [pivot]
    return None if any(row[-1] != 0 for row in rows) else found


def corners(rows):
    """All values from nought on, one for each column but the last, with as few above nought as can be.

    Each row, times them, makes its last item. What is straight has its least and greatest among them.
    """
    rows = reduced(rows)
    if rows is None:
        return []
    columns = len(rows[0]) - 1
    found = set()
    for chosen in combinations(range(columns), len(rows)):
        small = reduced([[row[column] for column in chosen] + [row[-1]] for row in rows])
        if small is None or len(small) < len(chosen):
            continue
        values = {column: row[-1] for column, row in zip(chosen, small)}
        if all(value >= 0 for value in values.values()):
            found.add(tuple(values.get(column, Fraction(0)) for column in range(columns)))
    return sorted(found)


def corner_tables(one, other):
    """TABLES from one to other: the corners of all of them, as dicts of pairs (X, Y)."""
    pairs = [(x, y) for x, _ in one for y, _ in other]
    rows = [[int(x == start) for x, _ in pairs] + [worth(weight)] for start, weight in one]
    rows += [[(y - x) * (x == start) for x, y in pairs] + [0] for start, _ in one]
    rows += [[int(y == end) for _, y in pairs] + [worth(weight)] for end, weight in other]
    return [dict(zip(pairs, values)) for values in corners(rows)]


def bends(one, other, costs, way):
    """All places at which COSTS bend up (1) or down (-1), by slopes."""
    found = []
    for i in range(len(one)):
        for j in range(len(other)):
            if i + 1 < len(one) and j + 2 < len(other):
                rises = [costs[i + 1][j + k] - costs[i][j + k] for k in range(3)]
                ends = [other[j + k][0] for k in range(3)]
                first = Fraction(rises[1] - rises[0], ends[1] - ends[0])
                second = Fraction(rises[2] - rises[1], ends[2] - ends[1])
                if (second - first) * way > 0:
                    found.append((i, j))
    return tuple(found)


def cost(one, other, rows, table):
    """The COST of a TABLE."""
    starts, ends = [number for number, _ in one], [number for number, _ in other]
    return sum((worth(weight) * rows[starts.index(x)][ends.index(y)] for x, y, weight in table), Fraction(0))


def beginnings(days):
    found = set()
    for path in product(*days):
        found |= {path[:many] for many in range(1, len(days))}
    return sorted(found)


def fair_rows(days):
    """Equations for FAIR SHARES: a column for each PATH, the sum last."""
    paths = list(product(*days))
    rows = [[1] * len(paths) + [1]]
    for begun in beginnings(days):
        many = len(begun)
        rows.append([(path[many] - path[many - 1]) * (path[:many] == begun) for path in paths] + [0])
    return rows


def is_fair(days, fair):
    values = [worth(fraction) for fraction in fair]
    if len(values) != len(list(product(*days))) or min(values) < 0:
        return False
    return all(sum(a * b for a, b in zip(row, values)) == row[-1] for row in fair_rows(days))


def mean(fair, claim):
    return sum((worth(fraction) * item for fraction, item in zip(fair, claim)), Fraction(0))


def keeps(fair, book):
    return all(
        (bid is None or bid <= mean(fair, claim)) and (ask is None or mean(fair, claim) <= ask)
        for claim, bid, ask in book
    )


def corner_fairs(days, book):
    """The corners of all FAIR SHARES that keep a BOOK, as tuples of fractions."""
    sides = [(claim, 1, ask) for claim, _, ask in book if ask is not None]
    sides += [(claim, -1, bid) for claim, bid, _ in book if bid is not None]
    rows = [row[:-1] + [0] * len(sides) + row[-1:] for row in fair_rows(days)]
    for at, (claim, side, bound) in enumerate(sides):
        rows.append(list(claim) + [side * (at == place) for place in range(len(sides))] + [bound])
    many = len(list(product(*days)))
    return [values[:many] for values in corners(rows)]


def pays(days, book, hedge):
    """What a HEDGE pays on each PATH."""
    cash, buys, sells, dealing = hedge
    dealt = dict(zip(beginnings(days), dealing))
    paid = []
    for at, path in enumerate(product(*days)):
        whole = worth(cash)
        for (claim, _, _), bought, sold in zip(book, buys, sells):
            whole += claim[at] * (worth(bought) - worth(sold))
        for many in range(1, len(path)):
            whole += worth(dealt[path[:many]]) * (path[many] - path[many - 1])
        paid.append(whole)
    return paid


def expense(book, hedge):
    """What a HEDGE costs."""
    cash, buys, sells, _ = hedge
    whole = worth(cash)
    for (_, bid, ask), bought, sold in zip(book, buys, sells):
        whole += (0 if ask is None else ask * worth(bought)) - (0 if bid is None else bid * worth(sold))
    return whole


def is_hedge(days, book, hedge):
    _, buys, sells, dealing = hedge
    if not len(buys) == len(sells) == len(book) or len(dealing) != len(beginnings(days)):
        return False
    for (_, bid, ask), bought, sold in zip(book, buys, sells):
        if worth(bought) < 0 or worth(sold) < 0 or (ask is None and worth(bought)) or (bid is None and worth(sold)):
            return False
    return True
