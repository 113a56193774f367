"""Notes: plans written as texts, and read from them."""

from ropeclock.errors import NoPlan
from ropeclock.plans import BEGINNING

# The beginning, and then the ropes in their order; those behind k are there for plans longer than can be read.
MARKS = "oabcdefghijklmnopqrstuvwxyz"
BETWEEN_ROPES = ", "
BETWEEN_ENDS = "+"
MOST_ROPES = 12


def shown(plan):
    return BETWEEN_ROPES.join([rope_shown(rope) for rope in plan])


def rope_shown(rope):
    if rope[1] is None:
        return end_shown(rope[0])
    return end_shown(rope[0]) + BETWEEN_ENDS + end_shown(rope[1])


def end_shown(end):
    return MARKS[end - BEGINNING]


def read(text):
    pieces = text.split(BETWEEN_ROPES)
    if len(pieces) > MOST_ROPES:
        raise NoPlan("too many ropes")
    return [rope_read(piece, number) for number, piece in enumerate(pieces)]


def rope_read(piece, number):
    if len(piece) == 1:
        return (end_read(piece, number), None)
    if len(piece) != 3 or piece[1] != BETWEEN_ENDS:
        raise NoPlan(f"rope {number} is not written as one or as one+other")
    one = end_read(piece[0], number)
    other = end_read(piece[2], number)
    if other < one:
        raise NoPlan(f"the other end of rope {number} is less than its one end")
    return (one, other)


def end_read(mark, number):
    # Only the beginning and the ropes ahead may be named.
    place = MARKS[:number + 1].find(mark)
    if place < 0:
        raise NoPlan(f"rope {number} has an end that is lit by no rope ahead of it")
    return BEGINNING + place
