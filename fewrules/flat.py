"""Theories for slots without calls: each relation has its own examples and slots, as the one of a plain task has."""

from fewrules.fields import Field
from fewrules.kin import Kin
from fewrules.parts import greatest_among
from fewrules.plain import set_masks
from fewrules.theories import easy_lots


def flat_theory(slots):
    """Return the mask of a theory for slots that fits and has no calls, or None if there is none."""
    bodies = [0] * len(slots.names)
    for name, places in slots.task.signature.unknown:
        mine = [at for at, other in enumerate(slots.names) if other == name]
        found = bodies_for(field_for(slots, name, places), len(mine))
        if found is None:
            return None
        for at, body in zip(mine, found):
            bodies[at] = body
    return slots.joined(bodies)


def field_for(slots, name, places):
    """Return the field of the examples of a relation."""
    task = slots.task
    goods = [greatest_among(set_masks(task, example)) for example in slots.good if example[1] == name]
    bads = [mask for example in slots.bad if example[1] == name for mask in set_masks(task, example)]
    # The atoms of known relations alone are taken, also where there are others.
    return Field(slots.scenes[0].known, Kin(task.atoms, task.names, places), goods, greatest_among(bads))


def bodies_for(field, count):
    """Return so many bodies, masks, by which all good examples are covered and no bad one is, or None."""
    lots = easy_lots(field, count)
    if lots is None:
        return None
    found = [field.body_for(lot) for lot in lots]
    if len(found) < count:
        spare = field.body_for(0)
        if spare is None:
            return None
        found.extend([spare] * (count - len(found)))
    return found
