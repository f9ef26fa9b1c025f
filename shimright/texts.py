"""Texts: plans, lists and fractions written, each in one way, and read back."""

from shimright.errors import NoText
from shimright.fractions import common_divisor, show
from shimright.plans import is_bounds

MOST_FIGURES = 40


def show_words(fractions):
    return [show(q) for q in fractions]


def show_list(fractions):
    if len(fractions) == 0:
        return "none"
    return " ".join(show_words(fractions))


def show_bounds(word, pair):
    return " ".join([word] + show_words(pair))


def show_demand(demand):
    words = ["demand"] + show_words(demand[0]) + [":"] + show_words(demand[1]) + [":", show(demand[2])]
    return " ".join(words)


def show_plan(plan):
    rows = [show_bounds("size", pair) for pair in plan[0]]
    rows.extend([show_bounds("shim", pair) for pair in plan[1]])
    rows.extend([show_demand(demand) for demand in plan[2]])
    return "; ".join(rows)


def is_number(text, most):
    # Asked sign by sign, as isdigit would let other scripts' figures by.
    if len(text) == 0 or len(text) > most or not all([sign in "0123456789" for sign in text]):
        return False
    return text == "0" or not text.startswith("0")


def require_text(thing):
    if not isinstance(thing, str):
        raise NoText("this is no text")


def read_top(text):
    below_0 = text.startswith("-")
    written = text[1:] if below_0 else text
    if not is_number(written, MOST_FIGURES) or text == "-0":
        raise NoText("this writes no whole number")
    return -int(written) if below_0 else int(written)


def read_bottom(text):
    if not is_number(text, MOST_FIGURES) or int(text) < 2:
        raise NoText("this writes no bottom")
    return int(text)


def read_fraction(text):
    require_text(text)
    parts = text.split("/")
    if len(parts) == 1:
        return (read_top(text), 1)
    if len(parts) != 2:
        raise NoText("this writes no fraction")
    top = read_top(parts[0])
    bottom = read_bottom(parts[1])
    if common_divisor(top, bottom) != 1:
        raise NoText("this fraction is not in lowest terms")
    return (top, bottom)


def read_words(words):
    return [read_fraction(word) for word in words]


def read_list(text):
    require_text(text)
    if text == "none":
        return []
    return read_words(text.split(" "))


def read_bounds(words):
    pair = tuple(read_words(words[1:]))
    if not is_bounds(pair):
        raise NoText("this writes no low and high")
    return pair


def read_demand(words, size_count, shim_count):
    first = 1 + size_count
    second = first + 1 + shim_count
    if len(words) != second + 2 or words[first] != ":" or words[second] != ":":
        raise NoText("this writes no demand of this plan")
    return (read_words(words[1:first]), read_words(words[first + 1:second]), read_fraction(words[second + 1]))


def rows_called(rows, word):
    return [words for words in rows if words[0] == word]


def read_plan(text):
    require_text(text)
    rows = [row.split(" ") for row in text.split("; ")]
    sizes = rows_called(rows, "size")
    shims = rows_called(rows, "shim")
    demands = rows_called(rows, "demand")
    # Rows with another word, or in another order, are not these again.
    if len(sizes) == 0 or rows != sizes + shims + demands:
        raise NoText("these are no rows of a plan")
    return (
        [read_bounds(words) for words in sizes],
        [read_bounds(words) for words in shims],
        [read_demand(words, len(sizes), len(shims)) for words in demands],
    )
