"""What several tests need: plans, other ways to the same answers, and whose the lists are that are told."""

import copy
import itertools
from fractions import Fraction

EIGHTY = 10 ** 80 - 1
TINY = Fraction(1, 10 ** 30)
ZERO = (0, 1)
ONE = (1, 1)


def pair(number):
    told = Fraction(number)
    return (told.numerator, told.denominator)


def pairs(*numbers):
    return [pair(number) for number in numbers]


def bounds(*numbers):
    return [(pair(low), pair(high)) for low, high in numbers]


def good_plan():
    # Sizes x and y, shims s and t: 2x - y + s - 5 and -x/2 - s + t/3 + 4 must not be below 0.
    return (
        bounds((1, 4), (Fraction(-1, 2), Fraction(5, 2))),
        bounds((0, 6), (-3, 3)),
        [
            (pairs(2, -1), pairs(1, 0), pair(-5)),
            (pairs(Fraction(-1, 2), 0), pairs(-1, Fraction(1, 3)), pair(4)),
        ],
    )


def no_shims():
    return (bounds((0, 2)), [], [(pairs(1), [], pair(-1))])


def no_demands():
    return (bounds((0, 2), (3, 3)), bounds((-1, 1)), [])


def bare():
    return (bounds((0, 0)), [], [])


def places(thing, fits_kind, path=()):
    """The paths to all parts of thing of which fits_kind holds."""
    found = [path] if fits_kind(thing) else []
    if isinstance(thing, (tuple, list)):
        for k, part in enumerate(thing):
            found.extend(places(part, fits_kind, path + (k,)))
    return found


def part_at(thing, path):
    for k in path:
        thing = thing[k]
    return thing


def replaced(thing, path, part):
    if path == ():
        return part
    parts = list(thing)
    parts[path[0]] = replaced(parts[path[0]], path[1:], part)
    return tuple(parts) if isinstance(thing, tuple) else parts


def value(q):
    return Fraction(q[0], q[1])


def written(thing):
    """The same lists and tuples with fractions in the places of numbers."""
    if isinstance(thing, list):
        return [written(part) for part in thing]
    if isinstance(thing, tuple):
        return tuple(written(part) for part in thing)
    return pair(thing)


def is_fraction(thing):
    return isinstance(thing, tuple) and len(thing) == 2 and all(type(part) is int for part in thing)


def read(thing):
    """The same lists and tuples with numbers in the places of fractions."""
    if is_fraction(thing):
        return value(thing)
    return type(thing)(read(part) for part in thing)


def small_plan():
    # A size from 1 to 4 and a shim from 0 to 3, 5 at least together: too much for sizes below 2.
    return written(([(1, 4)], [(0, 3)], [([1], [1], -5)]))


def two_shims():
    # x, and s and t: s + t - x, x - s - t + 1, s - t must not be below 0; each x has a choice.
    demands = [([-1], [1, 1], 0), ([1], [-1, -1], 1), ([0], [1, -1], 0)]
    return written(([(0, 6)], [(0, 3), (0, 3)], demands))


def sleeve():
    # Sizes x and y, a shim s: y - x is just s, so a made set has a choice where y is x at least and x + 1 at most.
    return written(([(0, 10), (0, 10)], [(0, 1)], [([-1, 1], [-1], 0), ([1, -1], [1], 0)]))


def drawing(source, figures):
    """A function that draws numbers whose tops and bottoms have at most so many figures."""
    def draw():
        top = source.randrange(-10 ** figures + 1, 10 ** figures)
        return Fraction(top, source.choice((1, 1, 2, source.randrange(1, 10 ** figures))))

    return draw


def drawn_plan(source, figures, counts, margin):
    """A plan of so many sizes, shims and demands, and a made set and a choice within its bounds.

    For these two each demand is worth what margin, a function, tells, and less than 1 more.
    """
    draw = drawing(source, figures)
    limits, at = [], []
    for k in range(counts[0] + counts[1]):
        low, high = sorted([draw(), draw()]) if source.randrange(6) else [draw()] * 2
        limits.append((low, high))
        at.append(source.choice((low, high, (low + high) / 2)))
    demands = []
    for k in range(counts[2]):
        factors = [draw() if source.randrange(4) else Fraction(0) for q in at]
        worth = sum(x * y for x, y in zip(factors, at))
        # So c has no more figures than all the rest.
        c = -(worth.numerator // worth.denominator) + margin()
        demands.append((factors[:counts[0]], factors[counts[0]:], c))
    plan = written((limits[:counts[0]], limits[counts[0]:], demands))
    return plan, pairs(*at[:counts[0]]), pairs(*at[counts[0]:])


def drawn_counts(source, sizes=6, shims=3, demands=12):
    return source.randrange(1, sizes + 1), source.randrange(shims + 1), source.randrange(demands + 1)


def asked_rows(plan, made):
    """The rows that a made set asks of the shims, in numbers, in the words of promise 7."""
    sizes, shims, demands = read(plan)
    rows = [(b, sum(x * y for x, y in zip(a, read(made))) + c) for a, b, c in demands]
    for k, (low, high) in enumerate(shims):
        rows.append(([Fraction(j == k) for j in range(len(shims))], -low))
        rows.append(([-Fraction(j == k) for j in range(len(shims))], high))
    return rows


def solved(rows, count):
    """The one choice for which all these rows are just 0, or None where it is not one."""
    matrix = [list(b) + [-d] for b, d in rows]
    for k in range(count):
        pivot = next((row for row in matrix[k:] if row[k] != 0), None)
        if pivot is None:
            return None
        matrix.remove(pivot)
        pivot = [q / pivot[k] for q in pivot]
        matrix = [[q - row[k] * p for q, p in zip(row, pivot)] for row in matrix]
        matrix.insert(k, pivot)
    return [row[-1] for row in matrix]


def holds(row, choice):
    return sum(x * y for x, y in zip(row[0], choice)) + row[1] >= 0


def corners(plan, made):
    """The corners of all choices for which every row holds: some just where there is a choice, bounded as it is."""
    rows, count = asked_rows(plan, made), len(plan[1])
    found = []
    for some in itertools.combinations(rows, count):
        choice = solved(some, count)
        if choice is not None and choice not in found and all(holds(row, choice) for row in rows):
            found.append(choice)
    return found


def drawn_parts(source, sizes, counts):
    """A plan of 2 times so many sizes, and so many ones and others.

    Each of the ones, and of the others, has a worth for each demand; they go together where no sum is below 0.
    """
    limits = [(-6, 6)] * (2 * sizes)
    demands = [([int(j % sizes == k) for j in range(2 * sizes)], [source.choice((0, 1))], 0) for k in range(sizes)]
    plan = written((limits, [(-1, Fraction(1, 2))], demands))

    def draw():
        # Some few lie out of bounds.
        return source.choice((-2, -1, 0, 0, 1, 2, Fraction(1, 2), source.randrange(-7, 8)))

    def part():
        return pairs(*[draw() for k in range(sizes)])

    return plan, [part() for i in range(counts[0])], [part() for j in range(counts[1])]


def meets(plan, one, other):
    """Whether both go together, by another way."""
    within = all(low <= q <= high for q, (low, high) in zip(read(one + other), read(plan[0])))
    return within and corners(plan, one + other) != []


def lists_in(thing):
    found = [thing] if isinstance(thing, (list, dict)) else []
    if isinstance(thing, (list, tuple)):
        for part in thing:
            found.extend(lists_in(part))
    return found


def spoil(thing):
    for part in lists_in(thing):
        part.append("spoilt")
        part.reverse()


def check_own(case, ask, *handed):
    """What is handed in stays as it was, what is told is the asker's own, and the same again when asked again."""
    before = copy.deepcopy(handed)
    first = ask(*handed)
    wanted = copy.deepcopy(first)
    case.assertEqual(handed, before)
    second = ask(*handed)
    case.assertEqual(second, wanted)
    told = [id(part) for part in lists_in(first) + lists_in(second)]
    case.assertEqual(len(set(told)), len(told), "a list is told twice")
    case.assertFalse(set(told) & {id(part) for part in lists_in(handed)}, "a list that was handed in is told")
    spoil(first)
    case.assertEqual(handed, before)
    case.assertEqual(second, wanted)
    case.assertEqual(ask(*handed), wanted)
    case.assertEqual(ask(*before), wanted)
    spoil(handed)
    case.assertEqual(second, wanted)
