"""Covers: whether an answer shows that of measured parts as many pairs are told as can be."""

from shimright.choices import weights_bar
from shimright.plans import fits, within_bounds


def are_rising(numbers, count):
    return numbers == [k for k in range(count) if k in numbers]


def uncovered(cover, one_count, other_count):
    told = []
    for i in range(one_count):
        if i not in cover[0]:
            told.extend([(i, j) for j in range(other_count) if j not in cover[1]])
    return told


def pairs_show(plan, ones, others, pairs):
    if not are_rising([i for i, j, choice in pairs], len(ones)):
        return False
    if not are_rising(sorted([j for i, j, choice in pairs]), len(others)):
        return False
    return all([fits(plan, ones[i] + others[j], choice) for i, j, choice in pairs])


def cover_shows(cover, one_count, other_count, pair_count):
    if not are_rising(cover[0], one_count) or not are_rising(cover[1], other_count):
        return False
    return len(cover[0]) + len(cover[1]) == pair_count


def bar_shows(plan, made, weights):
    if not within_bounds(plan[0], made):
        return weights is None
    return weights is not None and weights_bar(plan, made, weights)


def bars_show(plan, ones, others, cover, bars):
    if [(i, j) for i, j, weights in bars] != uncovered(cover, len(ones), len(others)):
        return False
    return all([bar_shows(plan, ones[i] + others[j], weights) for i, j, weights in bars])


def matching_shows(plan, ones, others, answer):
    if answer[0] != "pairs" or not pairs_show(plan, ones, others, answer[1]):
        return False
    if not cover_shows(answer[2], len(ones), len(others), len(answer[1])):
        return False
    return bars_show(plan, ones, others, answer[2], answer[3])
