"""Plans: lists of ropes (one, other), the moments at which they go out, and the book of those moments."""

from ropeclock.errors import Late
from ropeclock.times import START, between, earlier, hour_behind, in_order, mean_and_half

BEGINNING = -1
HOUR = (1, 1)


def outs(plan):
    moments = []
    for number, rope in enumerate(plan):
        moments.append(out_of(number, rope, moments))
    return moments


def out_of(number, rope, moments):
    one = lighting(rope[0], moments)
    if rope[1] is None:
        return hour_behind(one)
    # The other end may be lit ahead of the one: rope numbers do not rise with their moments.
    other = lighting(rope[1], moments)
    if not earlier(between(one, other), HOUR):
        raise Late(number)
    return mean_and_half(one, other)


def lighting(end, moments):
    if end == BEGINNING:
        return START
    return moments[end]


def book(plan):
    moments = outs(plan)
    pages = {}
    # The ropes are walked in their order, so the lists of each page rise as they grow.
    for number, rope in enumerate(plan):
        page_at(pages, moments[number])[1].append(number)
        for side in (0, 1):
            if rope[side] is not None:
                page_at(pages, lighting(rope[side], moments))[2].append((number, side))
    return [pages[moment] for moment in in_order(list(pages))]


# Moments are told in lowest terms alone, so equal moments are one key.
def page_at(pages, moment):
    return pages.setdefault(moment, (moment, [], []))
