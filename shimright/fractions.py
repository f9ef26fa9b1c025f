"""Fractions: tuples (top, bottom) of whole numbers, bottom from 1 on, in lowest terms."""

from shimright.errors import NoNumber

ZERO = (0, 1)
ONE = (1, 1)


def is_whole(thing):
    # True and False are ints to Python, but no whole numbers here.
    return isinstance(thing, int) and not isinstance(thing, bool)


def is_tuple_of(thing, length):
    return isinstance(thing, tuple) and len(thing) == length


def is_fraction(thing):
    if not is_tuple_of(thing, 2):
        return False
    if not is_whole(thing[0]) or not is_whole(thing[1]):
        return False
    return thing[1] >= 1 and common_divisor(thing[0], thing[1]) == 1


def common_divisor(one, other):
    larger = abs(one)
    smaller = abs(other)
    while smaller != 0:
        rest = larger % smaller
        larger = smaller
        smaller = rest
    return larger


def fraction(top, bottom):
    if bottom == 0:
        raise NoNumber("a fraction has no bottom of 0")
    shared = common_divisor(top, bottom)
    if bottom < 0:
        shared = -shared
    return (top // shared, bottom // shared)


def plus(q, r):
    return fraction(q[0] * r[1] + r[0] * q[1], q[1] * r[1])


def minus(q, r):
    return fraction(q[0] * r[1] - r[0] * q[1], q[1] * r[1])


def opposite(q):
    return (-q[0], q[1])


def times(q, r):
    return fraction(q[0] * r[0], q[1] * r[1])


def over(q, r):
    # A top of 0 in r comes to a bottom of 0, which fraction refuses.
    return fraction(q[0] * r[1], q[1] * r[0])


def below(q, r):
    return q[0] * r[1] < r[0] * q[1]


def figures(number):
    # Python's str refuses numbers of some thousand figures, which sums and
    # products may well come to; so the figures are written piece by piece.
    unit = 10 ** 60
    rest = abs(number)
    pieces = []
    while rest >= unit:
        pieces.append(str(rest % unit).zfill(60))
        rest = rest // unit
    pieces.append(str(rest))
    if number < 0:
        pieces.append("-")
    return "".join(reversed(pieces))


def show(q):
    if q[1] == 1:
        return figures(q[0])
    return figures(q[0]) + "/" + figures(q[1])
