"""Burning: what is left of the ropes of a plan at a moment."""

from ropeclock.plans import HOUR, lighting, outs
from ropeclock.times import stretch_from


def left(plan, moment):
    moments = outs(plan)
    return [left_of(rope, moments, moment) for rope in plan]


def left_of(rope, moments, moment):
    rest = HOUR
    for end in rope:
        if end is not None:
            burnt = stretch_from(lighting(end, moments), moment)
            rest = stretch_from(burnt, rest)
    return rest
