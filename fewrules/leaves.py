"""Leaves that show that no theory of a box fits, for as large boxes as they can."""

from fewrules.parts import digits_of, members_of
from fewrules.slots import told_facts, told_steps


class Leaf:
    """A leaf: its word, its example, what it shows, a list, and a mask of atoms.

    It is one for all boxes that have all atoms of the mask in must ("lacks"), or none of them in may ("has").
    """

    def __init__(self, word, example, shown, mask):
        self.word = word
        self.example = example
        self.shown = shown
        self.mask = mask

    def told(self):
        """Return the tuple of the leaf."""
        return (self.word, self.example, list(self.shown))


def lack_leaf(slots, mask, example):
    """Return a leaf for a good example that the theory does not give."""
    scene = slots.scenes[example[0]]
    facts = slots.outcome(mask)[example[0]]
    truth = scene.truth_of(facts)
    bodies = [needed_atoms(scene, body, scene.others(name, facts[name]), truth) for name, body in slots.rules_of(mask)]
    return Leaf("lacks", example, told_facts(scene, facts), slots.joined(bodies))


def needed_atoms(scene, body, fresh, truth):
    """Return the mask of atoms of a body, as few as one finds, that are not all true under any of some placings."""
    rows = [(at, scene.holding[at] if at in scene.holding else truth[at]) for at in members_of(body)]
    behind = [fresh]
    for _, mask in reversed(rows):
        behind.append(behind[-1] & mask)
    kept = 0
    for (at, mask), others in zip(rows, behind[-2::-1]):
        if fresh & others:
            kept = kept | (1 << at)
            fresh = fresh & mask
    return kept


def wrong_leaf(slots, mask, example):
    """Return a leaf for a bad example that the theory gives."""
    scene = slots.scenes[example[0]]
    rules = slots.rules_of(mask)
    goal = (example[1], scene.ground.fact_digit(example[2]))
    steps = scene.steps_to(goal, scene.steps_of(rules), rules)
    bodies = [slots.whole] * len(rules)
    earlier = {}
    for name, digit, number, placing in steps:
        bodies[number] = bodies[number] & scene.body_at(placing, earlier)
        earlier[(name, digit)] = True
    return Leaf("has", example, told_steps(scene, steps), slots.everything ^ slots.joined(bodies))


def widened(mask, part, is_fine):
    """Return the mask with as many digits of a part put to it, one after the other, as is fine."""
    waiting = [digits_of(part)]
    while waiting:
        row = waiting.pop()
        if is_fine(mask | sum(row)):
            mask = mask | sum(row)
        else:
            waiting.extend(halves(row))
    return mask


def narrowed(mask, part, is_fine):
    """Return the mask with as many digits of a part taken out of it, one after the other, as is fine."""
    waiting = [digits_of(part)]
    while waiting:
        row = waiting.pop()
        if is_fine(mask & ~sum(row)):
            mask = mask & ~sum(row)
        else:
            waiting.extend(halves(row))
    return mask


def halves(row):
    """Return the list of the two halves of a row, the first one last; empty if it has not two members."""
    half = len(row) // 2
    return [row[half:], row[:half]] if half else []
