"""What can be measured: the moments of so many ropes, and the first plan in order for each."""

from ropeclock.errors import Late
from ropeclock.plans import BEGINNING, out_of
from ropeclock.times import earlier, in_order


def measured(most):
    return in_order(list(first_plans(most)))


def first_plan(moment, most):
    return first_plans(most).get(moment)


def next_moment(moment, most):
    for later in measured(most):
        if earlier(moment, later):
            return later
    return None


def first_plans(most):
    found = {}
    walked = [([], [])]
    for number in range(most):
        walked = longer_by_one(walked, number)
        for plan, moments in walked:
            found.setdefault(moments[-1], plan)
    return found


# What can follow on a plan hangs on the moments at which its ropes go out, not on their order: of plans with the same
# ones, the first in order stands for all. What the others measure, a shorter plan measures or the first one does.
def longer_by_one(walked, number):
    ropes = ropes_in_order(number)
    longer = {}
    for plan, moments in walked:
        for rope in ropes:
            out = out_or_none(number, rope, moments)
            # A second rope that goes out at a moment is of no use: a shorter plan does what this one does.
            if out is not None and out not in moments:
                reached = moments + [out]
                longer.setdefault(tuple(sorted(reached)), (plan + [rope], reached))
    return list(longer.values())


def out_or_none(number, rope, moments):
    try:
        return out_of(number, rope, moments)
    except Late:
        return None


def ropes_in_order(number):
    ropes = []
    for one in range(BEGINNING, number):
        ropes.append((one, None))
        ropes.extend([(one, other) for other in range(one, number)])
    return ropes
