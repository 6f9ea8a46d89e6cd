"""The slots of a code's names; names that are never needed at the same time may share one."""

from spacewright.bodies import inner, mentioned
from spacewright.needed import stands


# A name can only be in the way of those that are given behind it. So it makes no difference that the names that begin
# the bodies within a step get their slots right behind the step's own, ahead of all steps in these bodies.
def slots_of(code):
    place, params, kept, body = code
    slots = {}
    for name in params + kept:
        slots[name] = len(slots)
    for path, step, ahead, behind in stands(code):
        give_slots(slots, (step[1],), behind)
        for names, within in inner(step):
            uses = mentioned(within)
            give_slots(slots, names, behind + tuple([name for name in ahead if name in uses]))
    many = max([-1] + list(slots.values())) + 1
    return (many, slots)


# To each name the least slot that neither a needed name has nor one that was given ahead of it here.
def give_slots(slots, names, needs):
    taken = [slots[name] for name in needs]
    for name in names:
        slots[name] = least_without(taken)
        taken.append(slots[name])


def least_without(numbers):
    least = 0
    while least in numbers:
        least = least + 1
    return least
