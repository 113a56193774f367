"""What the tests share: plans to try, and a walk of a plan from lighting to lighting that knows no formula."""

import itertools
import random
from fractions import Fraction


def ropes_at(number):
    """Every rope that may stand at a place of a plan."""
    found = []
    for one in range(-1, number):
        found.append((one, None))
        found.extend((one, other) for other in range(one, number))
    return found


def all_plans(length):
    return [list(ropes) for ropes in itertools.product(*[ropes_at(number) for number in range(length)])]


def burn(plan):
    """(moments, late): when each rope is burnt down, and the ropes whose second lighting finds nothing left."""
    left = [Fraction(1)] * len(plan)
    fires = [0] * len(plan)
    moments = [None] * len(plan)
    late = []
    now = Fraction(0)
    happened = [-1]
    while happened:
        for number, rope in enumerate(plan):
            for end in rope:
                if end in happened and left[number] > 0:
                    fires[number] += 1
                elif end in happened:
                    late.append(number)
        burning = [number for number in range(len(plan)) if fires[number] and left[number] > 0]
        if not burning:
            break
        step = min(left[number] / fires[number] for number in burning)
        now += step
        for number in burning:
            left[number] -= step * fires[number]
        happened = [number for number in burning if left[number] == 0]
        for number in happened:
            moments[number] = now
    return moments, sorted(late)


def ticked(plan, ticks):
    """What is left of each rope at each tick of 1/ticks hours, in ticks, till two ticks behind the last going out."""
    left = [ticks] * len(plan)
    lit = [[end == -1 for end in rope] for rope in plan]
    rows = [list(left)]
    while len(rows) < 3 or any(rows[-3]):
        for number in range(len(plan)):
            left[number] = max(0, left[number] - sum(lit[number]))
        for number, rope in enumerate(plan):
            for side in (0, 1):
                if rope[side] is not None and rope[side] >= 0 and left[rope[side]] == 0:
                    lit[number][side] = True
        rows.append(list(left))
    return rows


def some_plans(length, count, seed):
    """Plans of so many ropes, the same ones at each run; late ones among them."""
    source = random.Random(seed)
    return [[source.choice(ropes_at(number)) for number in range(length)] for _ in range(count)]


def some_good_plans(length, count, seed):
    """Plans of so many ropes that are not late, the same ones at each run."""
    source = random.Random(seed)
    plans = []
    for _ in range(count):
        plan = []
        while len(plan) < length:
            longer = plan + [source.choice(ropes_at(len(plan)))]
            if not burn(longer)[1]:
                plan = longer
        plans.append(plan)
    return plans


def as_told(fraction):
    return (fraction.numerator, fraction.denominator)
