"""What rules give in a world, worked out with masks of its placings.

A rule is a pair of the name of its relation and the mask of its body. Facts of unknown relations are a dict: for each
relation the mask of its facts. A step is a tuple (name, digit, number, placing): the rule with this number gives the
fact of the relation with this digit by the placing, a mask of one digit, too.
"""

from fewrules.parts import digits_of, members_of
from fewrules.placings import MOST_KEPT, Ground


class Scene:
    """A world of a task: where its closed facts make each atom of a known relation true, and what rules give there."""

    def __init__(self, task, number):
        self.ground = Ground(task.worlds[number].constants, task.names)
        self.places = dict(task.signature.unknown)
        self.called = {name: [] for name in self.places}
        self.names = {}
        self.holding = {}
        self.known = 0
        rows = {name: [] for name, _ in task.signature.known}
        for name, row in task.closed[number]:
            rows[name].append([self.ground.constants.index(constant) for constant in row])
        for at, (name, names) in enumerate(task.atoms):
            if name in self.places:
                self.called[name].append(at)
                self.names[at] = (name, names)
            else:
                self.known = self.known | (1 << at)
                self.holding[at] = self.joined(names, rows[name])
        self.wheres = {}
        self.calls = {}

    def joined(self, names, rows):
        """Return the mask of the placings that give names the constants of one of the rows."""
        mask = 0
        for row in rows:
            mask = mask | self.ground.matching(names, row)
        return mask

    def where(self, body):
        """Return the mask of the placings that make closed facts of all atoms of known relations in the body."""
        known = body & self.known
        if known not in self.wheres:
            if len(self.wheres) > MOST_KEPT:
                self.wheres = {}
            mask = self.ground.everything
            for at in members_of(known):
                mask = mask & self.holding[at]
            self.wheres[known] = mask
        return self.wheres[known]

    def calls_in(self, body):
        """Return the tuple of the numbers of the atoms of unknown relations in the body."""
        called = body & ~self.known
        if called not in self.calls:
            self.calls[called] = members_of(called)
        return self.calls[called]

    def numbers_of_fillings(self, example):
        """Return the tuple of the numbers of the fillings of an example of the world among its placings."""
        return members_of(self.filling_mask(example))

    def is_placing(self, row):
        """Return True if the tuple is a placing of the world."""
        return len(row) == self.ground.names and all(constant in self.ground.constants for constant in row)

    def filling_mask(self, example):
        """Return the mask of the fillings of an example of the world."""
        return self.blocks(example[1], self.ground.fact_digit(example[2]))

    def least(self, rules, steps=None):
        """Return the least facts that are closed under the rules, and put the steps to them to the list, if any."""
        facts = {name: 0 for name in self.places}
        truth = {at: 0 for at in self.names}
        grown = True
        while grown:
            grown = False
            for number, (name, body) in enumerate(rules):
                mask = self.fires(body, truth)
                fresh = self.ground.heads(mask, self.places[name]) & ~facts[name] if mask else 0
                if fresh:
                    grown = True
                    if steps is not None:
                        steps.extend(self.steps_with(name, fresh, number, mask))
                    facts[name] = facts[name] | fresh
                    for at in self.called[name]:
                        truth[at] = truth[at] | self.ground.truth(self.names[at][1], fresh)
        return facts

    def steps_with(self, name, fresh, number, mask):
        """Return the list of the steps to new facts of a relation, each with all placings by which a rule gives it."""
        return [(name, digit, number, mask & self.blocks(name, digit)) for digit in digits_of(fresh)]

    def steps_of(self, rules):
        """Return the list of the steps to the least facts that are closed under the rules."""
        steps = []
        self.least(rules, steps)
        return steps

    def fires(self, body, truth):
        """Return the mask of the placings that make all atoms of the body true, with a table for those that call."""
        mask = self.where(body)
        for at in self.calls_in(body):
            mask = mask & truth[at]
        return mask

    def blocks(self, name, facts):
        """Return the mask of the placings that begin with the constants of one of some facts of the relation."""
        return facts * ((1 << self.ground.widths[self.places[name]]) - 1)

    def others(self, name, facts):
        """Return the mask of the placings that make none of these facts of the head of the relation."""
        return self.ground.everything ^ self.blocks(name, facts)

    def relations_in(self, body):
        """Return the list of the names of the unknown relations that the atoms of a body call."""
        return [self.names[at][0] for at in self.calls_in(body)]

    def truth_of(self, facts):
        """Return the table of the masks of the placings that make facts of the atoms of unknown relations."""
        return {at: self.ground.truth(names, facts[name]) for at, (name, names) in self.names.items()}

    def fact_at(self, at, placing):
        """Return the name and the digit of the fact that a placing makes of an atom of an unknown relation."""
        name, names = self.names[at]
        row = self.ground.row_of(placing)
        return (name, self.ground.digit_of([row[one] for one in names]))

    def steps_to(self, goal, steps, rules):
        """Return those of the steps, in order, that lead to a fact, a pair (name, digit), which is one of theirs."""
        needed = {goal: True}
        kept = []
        for name, digit, number, mask in reversed(steps):
            if (name, digit) in needed:
                placing = mask & -mask
                kept.append((name, digit, number, placing))
                for at in self.calls_in(rules[number][1]):
                    needed[self.fact_at(at, placing)] = True
        return kept[::-1]

    def body_at(self, placing, earlier):
        """Return the mask of the atoms that are true under a placing, with these facts, pairs (name, digit)."""
        body = 0
        for at, mask in self.holding.items():
            if mask & placing:
                body = body | (1 << at)
        for at in self.names:
            if self.fact_at(at, placing) in earlier:
                body = body | (1 << at)
        return body
