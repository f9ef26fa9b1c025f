"""Tables: the rows of the shims in whole numbers, each told by as many of them as there are shims.

A Table sees the rows from one choice:
held has the numbers of as many rows as there are shims, by whose worths every choice can be told;
rows has a line for each row, taken as many times as scales says, so that all of it is whole;
shims has a line for each shim.
A line is a list of whole numbers, one for each held row and a last one. What it tells is the sum of
the first ones times the worths of the held rows, and the last one, all over the bottom. The choice is
the one for which every held row is just 0: there the last number of each line is all that is left.
"""

from shimright.fractions import common_divisor, fraction


class Table:
    def __init__(self, held, bottom, rows, scales, shims):
        self.held = held
        self.bottom = bottom
        self.rows = rows
        self.scales = scales
        self.shims = shims


def scale_of(parts):
    scale = 1
    for q in parts:
        scale = scale * (q[1] // common_divisor(scale, q[1]))
    return scale


def whole_line(parts, scale):
    return [q[0] * (scale // q[1]) for q in parts]


def unit_line(length, place):
    line = [0 for k in range(length)]
    line[place] = 1
    return line


def table_at_lows(shim_count, rows):
    parts = [b + [d] for b, d in rows]
    scales = [scale_of(told) for told in parts]
    lines = [whole_line(told, scale) for told, scale in zip(parts, scales)]
    shims = [unit_line(shim_count + 1, k) for k in range(shim_count)]
    # No row is held yet: until the lows' rows are, the lines tell all by the shims themselves.
    table = Table([None for k in range(shim_count)], 1, lines, scales, shims)
    for k in range(shim_count):
        table = turned(table, len(rows) - 2 * (shim_count - k), k)
    return table


def choice_at(table):
    return [fraction(line[-1], table.bottom) for line in table.shims]


def exchanged(line, incoming, place, bottom):
    # What is divided here comes out whole: each number of a table is a determinant of the first one's.
    pivot = incoming[place]
    share = line[place]
    told = [(top * pivot - share * other) // bottom for top, other in zip(line, incoming)]
    told[place] = share
    # The pivot is the new bottom, which must be above 0 for the lines' signs to tell those of the worths.
    if pivot < 0:
        return [-top for top in told]
    return told


def turned(table, number, place):
    incoming = table.rows[number]
    held = list(table.held)
    held[place] = number
    rows = [exchanged(line, incoming, place, table.bottom) for line in table.rows]
    shims = [exchanged(line, incoming, place, table.bottom) for line in table.shims]
    return Table(held, abs(incoming[place]), rows, table.scales, shims)


def first_held(table, places):
    # Always the row of the least number, as also of those that come in: else turning might go round for ever.
    return min(places, key=lambda place: table.held[place], default=None)


def first_broken(table):
    for number, line in enumerate(table.rows):
        if line[-1] < 0:
            return number
    return None


def lifting_place(table, number):
    line = table.rows[number]
    return first_held(table, [place for place in range(len(table.held)) if line[place] > 0])


def settled(table):
    # Told beside the table is None where no row of it is below 0, else a row that is so for every choice:
    # none of its numbers but the last one is above 0, and no held row may be below 0.
    number = first_broken(table)
    while number is not None:
        place = lifting_place(table, number)
        if place is None:
            return (table, number)
        table = turned(table, number, place)
        number = first_broken(table)
    return (table, None)


def barring_weights(table, number):
    # The held rows, so often as the row lacks them, leave only its last number, which is below 0.
    tops = [0 for line in table.rows]
    tops[number] = table.bottom * table.scales[number]
    for place, held in enumerate(table.held):
        tops[held] = -table.rows[number][place] * table.scales[held]
    shared = 0
    for top in tops:
        shared = common_divisor(shared, top)
    return [(top // shared, 1) for top in tops]


def sinking_place(table, goal):
    places = []
    for place in range(len(goal)):
        if sum([often * line[place] for often, line in zip(goal, table.shims)]) < 0:
            places.append(place)
    return first_held(table, places)


def stops_sooner(line, other, place):
    # A line has room for its last number over what it loses, and it loses - line[place], above 0.
    return line[-1] * -other[place] < other[-1] * -line[place]


def first_stop(table, place):
    found = None
    for number, line in enumerate(table.rows):
        if line[place] < 0 and (found is None or stops_sooner(line, table.rows[found], place)):
            found = number
    return found


def sunk(table, goal):
    # The sum of goal, whole numbers, times the shims comes to its least, and no row falls below 0 on the way.
    place = sinking_place(table, goal)
    while place is not None:
        # Some row does stop it: every shim has a low and a high.
        table = turned(table, first_stop(table, place), place)
        place = sinking_place(table, goal)
    return table
