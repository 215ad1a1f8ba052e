"""Theories for slots as masks, and what they give in the worlds of a task.

The atoms of the body at the first slot are the lowest digits of such a mask, those of the next slot come behind them.
"""

from fewrules.errors import InvalidTheory, TooLarge
from fewrules.parts import digits_of, mask_of, members_of
from fewrules.scenes import Scene

MOST_SLOTS = 4
MOST_KEPT = 2000


class Slots:
    """Slots of a task, with good and bad examples, which may be more than a task has."""

    def __init__(self, task, names, good, bad):
        self.task = task
        self.names = list(names)
        self.good = list(good)
        self.bad = list(bad)
        self.count = len(task.atoms)
        self.whole = (1 << self.count) - 1
        self.everything = (1 << (self.count * len(self.names))) - 1
        self.scenes = [Scene(task, number) for number in range(len(task.worlds))]
        self.numbers = sorted({example[0]: True for example in [*good, *bad]})
        self.kept = {}
        self.digits = {}

    def rules_of(self, mask):
        """Return the list of the rules of a theory, pairs (name, mask of the body)."""
        return [(name, (mask >> (self.count * at)) & self.whole) for at, name in enumerate(self.names)]

    def theory_of(self, mask):
        """Return the theory of a mask, a list of rules of the task."""
        return list(zip(self.names, self.bodies_of(mask)))

    def bodies_of(self, mask):
        """Return the list of the bodies of a theory."""
        return [members_of(body) for _, body in self.rules_of(mask)]

    def mask_for(self, theory):
        """Return the mask of a theory for the slots."""
        return self.joined([mask_of(body) for _, body in theory])

    def joined(self, bodies):
        """Return the mask of the theory with the masks of these bodies."""
        return sum([body << (self.count * at) for at, body in enumerate(bodies)])

    def place_of(self, digit):
        """Return the number of the slot and that of the atom of a mask of one digit."""
        return divmod(digit.bit_length() - 1, self.count)

    def digit_at(self, slot, atom):
        """Return the digit of an atom at a slot, or 0 if there is no such slot or atom."""
        if not 0 <= slot < len(self.names) or not 0 <= atom < self.count:
            return 0
        return 1 << (slot * self.count + atom)

    def examples_in(self, number, name):
        """Return the mask of the facts of a relation in a world that are good or bad examples."""
        rows = [row for at, one, row in [*self.good, *self.bad] if (at, one) == (number, name)]
        return sum([self.scenes[number].ground.fact_digit(row) for row in rows])

    def outcome(self, mask):
        """Return a table of the facts that a theory gives in each world with examples."""
        if mask not in self.kept:
            if len(self.kept) > MOST_KEPT:
                self.kept = {}
            rules = self.rules_of(mask)
            self.kept[mask] = {number: self.scenes[number].least(rules) for number in self.numbers}
        return self.kept[mask]

    def gives(self, mask, example):
        """Return True if the example is in the least set of the theory."""
        if example not in self.digits:
            self.digits[example] = self.scenes[example[0]].ground.fact_digit(example[2])
        return self.outcome(mask)[example[0]][example[1]] & self.digits[example] != 0

    def lacking(self, mask):
        """Return the first good example that the theory does not give, or None."""
        for example in self.good:
            if not self.gives(mask, example):
                return example
        return None

    def wrong(self, mask):
        """Return the first bad example that the theory gives, or None."""
        for example in self.bad:
            if self.gives(mask, example):
                return example
        return None

    def fits(self, mask):
        """Return True if the theory fits."""
        return self.lacking(mask) is None and self.wrong(mask) is None


def slots_of(task, names):
    """Return slots with the examples of the task."""
    return Slots(task, names, task.good, task.bad)


def slots_with(task, names, example, truth):
    """Return slots with a further good example (True) or bad one (False), however many there are."""
    if truth:
        return Slots(task, names, [*task.good, example], task.bad)
    return Slots(task, names, task.good, [*task.bad, example])


def check_slots(task, slots):
    """Raise TooLarge if there are too many slots, and InvalidTheory for a name of no unknown relation."""
    if len(slots) > MOST_SLOTS:
        raise TooLarge("slots")
    unknown = dict(task.signature.unknown)
    if not all(name in unknown for name in slots):
        raise InvalidTheory("unknown")


def told_facts(scene, facts):
    """Return the list of facts of unknown relations of a world, in order."""
    found = []
    for name, places in scene.places.items():
        found.extend([(name, scene.ground.placing_of(digit)[:places]) for digit in digits_of(facts[name])])
    return found


def told_steps(scene, steps):
    """Return the list of the stages that steps are."""
    found = []
    for name, digit, number, mask in steps:
        fact = (name, scene.ground.placing_of(digit)[:scene.places[name]])
        found.append((fact, number, scene.ground.placing_of(mask & -mask)))
    return found
