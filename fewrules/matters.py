"""What matters in a box of theories for slots.

A fact is settled in a box if all of its theories give it, or none does. A body matters only at placings of which the
head is not settled, and there only if they make all atoms true that are in it for sure.
"""

from fewrules.parts import digits_of, size_of


class Matter:
    """A key that boxes have in common if the same matters in them, the atoms that do not matter, and the groups.

    A group is a tuple (slot, size, mask): the mask of atoms of a slot that are true at the same placings that matter,
    and the number of these.
    """

    def __init__(self, slots, must, may):
        self.slots = slots
        self.free = 0
        self.groups = []
        low = slots.outcome(may)
        high = slots.outcome(must)
        called = [one for _, body in slots.rules_of(may) for one in slots.scenes[0].relations_in(body)]
        views = [View(slots, number, low[number], high[number], called) for number in slots.numbers]
        key = [view.facts_of(called) for view in views]
        calls = ~slots.scenes[0].known
        between = slots.rules_of(may & ~must)
        for at, (name, body) in enumerate(slots.rules_of(must)):
            alive = tuple([view.alive(name, body) for view in views])
            left = self.group_atoms(at, between[at][1], alive, views)
            key.append((alive, left, body & calls) if any(alive) else 0)
        self.key = tuple(key)

    def group_atoms(self, at, body, alive, views):
        """Put the atoms of a body to the groups, or to the free ones, and return the mask of those in groups."""
        shift = at * self.slots.count
        columns = {}
        for digit in digits_of(body):
            column = tuple([view.true_among(digit, mask) for view, mask in zip(views, alive)])
            if column == alive:
                self.free = self.free | (digit << shift)
                body = body ^ digit
            else:
                # Where an atom calls, the facts that are not settled tell it from others.
                calls = digit & ~self.slots.scenes[0].known
                columns.setdefault((column, calls), []).append(digit)
        for (column, _), group in columns.items():
            self.groups.append((at, sum([size_of(mask) for mask in column]), sum(group) << shift))
        return body

    def group_with(self, digit):
        """Return the mask of the group with an atom, or 0; without an atom the least group of the first slot."""
        if digit:
            return sum([mask for _, _, mask in self.groups if mask & digit])
        return min(self.groups)[2] if self.groups else 0


class View:
    """A world, with the facts that all theories of a box give (low), and those that some may give (high)."""

    def __init__(self, slots, number, low, high, called):
        self.scene = slots.scenes[number]
        self.low = low
        self.high = high
        self.low_truth = self.scene.truth_of(low)
        self.high_truth = self.scene.truth_of(high)
        self.unsettled = {}
        for name in slots.names:
            unsettled = high[name] & ~low[name]
            if name not in called:
                unsettled = unsettled & slots.examples_in(number, name)
            self.unsettled[name] = self.scene.blocks(name, unsettled)

    def facts_of(self, called):
        """Return the tuple of the facts of relations that are called."""
        return tuple([(name, self.low[name], self.high[name]) for name in self.scene.places if name in called])

    def alive(self, name, body):
        """Return the mask of the placings that matter and may make all atoms of a body true."""
        return self.unsettled[name] & self.scene.fires(body, self.high_truth)

    def true_among(self, digit, mask):
        """Return those of some placings under which an atom, told as a mask of one digit, is true for sure."""
        if digit & self.scene.known:
            return mask & self.scene.where(digit)
        return mask & self.low_truth[digit.bit_length() - 1]
