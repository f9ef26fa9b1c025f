"""The desk: a plan is told to it, and it is asked of the plan, row by row.

A row is read, whatever the plan, by one function, which refuses with NoRow what is no such row; another one answers
what was read, by the plan.
"""

from shimright.always import always
from shimright.choices import choice_for
from shimright.errors import NoName, NoNumber, NoRow, NoText
from shimright.fractions import show
from shimright.gaps import reach
from shimright.matched import matched
from shimright.orders import is_order, who_wins
from shimright.plans import copied, within_bounds
from shimright.rules import rule_of
from shimright.texts import is_number, read_fraction, read_plan, show_list
from shimright.whole import good_set, how_many

MOST_NUMBER_FIGURES = 6
MOST_PARTS = 12


def require_row(holds):
    if not holds:
        raise NoRow("this is no row")


def require_number(holds):
    if not holds:
        raise NoNumber("this does not go with the plan")


def read_number(word):
    require_row(is_number(word, MOST_NUMBER_FIGURES))
    return int(word)


def read_sizes(words):
    require_row(len(words) > 0)
    try:
        return [read_fraction(word) for word in words]
    except NoText as e:
        raise NoRow("a word of this row writes no fraction") from e


def parted(words, sign):
    parts = [[]]
    for word in words:
        if word == sign:
            parts.append([])
        else:
            parts[-1].append(word)
    return parts


def two_sides(words, sign):
    sides = parted(words, sign)
    require_row(len(sides) == 2)
    return sides


def read_nothing(words):
    require_row(len(words) == 0)
    return None


def read_one_number(words):
    require_row(len(words) == 1)
    return read_number(words[0])


def read_reach(words):
    sides = two_sides(words, ":")
    require_row(len(sides[1]) > 0)
    return (read_sizes(sides[0]), [read_number(word) for word in sides[1]])


def read_turn(word):
    require_row(word.startswith("s") or word.startswith("c"))
    return ("size" if word.startswith("s") else "shim", read_number(word[1:]))


def read_order(words):
    require_row(len(words) > 0)
    return [read_turn(word) for word in words]


def read_parts(words):
    return [read_sizes(part) for part in parted(words, "/")]


def read_match(words):
    sides = two_sides(words, "|")
    return (read_parts(sides[0]), read_parts(sides[1]))


def answer_fit(plan, made):
    require_number(len(made) == len(plan[0]))
    told = choice_for(plan, made)
    if told[0] == "bars":
        return "none"
    return "choice " + show_list(told[1])


def answer_always(plan, nothing):
    told = always(plan)
    if told[0] == "always":
        return "yes"
    return "no " + show_list(told[1])


def answer_rows(plan, nothing):
    return str(len(rule_of(plan)[1]))


def answer_count(plan, nothing):
    told = how_many(plan)
    return str(told[0]) + " of " + str(told[1])


def answer_number(plan, number):
    return show_list(good_set(plan, number))


def answer_reach(plan, asked):
    numbers = asked[1]
    require_number(within_bounds(plan[0], asked[0]))
    require_number(max(numbers) < len(plan[0]) + len(plan[1]))
    require_number(len(set(numbers)) == len(numbers))
    found = reach(plan, asked[0], [(k, 1) for k in numbers])
    if found is None:
        return "none"
    return show(found[0][0]) + " " + show(found[1][0])


def answer_order(plan, order):
    require_number(is_order(plan, order))
    return who_wins(plan, order)


def answer_match(plan, asked):
    length = len(asked[0][0])
    require_number(all([len(one) == length for one in asked[0]]))
    require_number(all([length + len(other) == len(plan[0]) for other in asked[1]]))
    require_number(len(asked[0]) <= MOST_PARTS and len(asked[1]) <= MOST_PARTS)
    return str(len(matched(plan, asked[0], asked[1])[1]))


READERS = {
    "fit": read_sizes,
    "always": read_nothing,
    "rows": read_nothing,
    "count": read_nothing,
    "number": read_one_number,
    "reach": read_reach,
    "order": read_order,
    "match": read_match,
}

ANSWERS = {
    "fit": answer_fit,
    "always": answer_always,
    "rows": answer_rows,
    "count": answer_count,
    "number": answer_number,
    "reach": answer_reach,
    "order": answer_order,
    "match": answer_match,
}


class Desk:
    def __init__(self):
        self.kept = None

    def plan(self):
        if self.kept is None:
            return None
        return copied(self.kept)

    def say(self, row):
        require_row(isinstance(row, str))
        if row.startswith("plan "):
            self.kept = read_plan(row[len("plan "):])
            return "ok"
        words = row.split(" ")
        require_row(words[0] in READERS)
        asked = READERS[words[0]](words[1:])
        if self.kept is None:
            raise NoName("no plan is told yet")
        return ANSWERS[words[0]](self.kept, asked)
