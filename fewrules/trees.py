"""The judge of trees of boxes.

Many leaves of a tree show the same facts or stages for the same example. So it is looked up once for which bodies they
are good, and asked of each box only whether it has such bodies.
"""

from fewrules.tasks import is_example


class Judge:
    """Slots with their examples, and what was found out of the leaves so far."""

    def __init__(self, slots):
        self.slots = slots
        self.seen = {}

    def accepts(self, tree):
        """Return True if the tree is one for the whole box."""
        waiting = [(0, self.slots.everything, tree)]
        while waiting:
            must, may, node = waiting.pop()
            if node[0] == "split":
                _, slot, atom, first, second = node
                digit = self.slots.digit_at(slot, atom)
                if not digit & may & ~must:
                    return False
                waiting.append((must, may & ~digit, second))
                waiting.append((must | digit, may, first))
            elif not self.is_leaf(node, must, may):
                return False
        return True

    def is_leaf(self, node, must, may):
        """Return True if the tuple is a leaf for the box."""
        word, one, other = node
        if word == "lacks":
            return one in self.slots.good and one[1:] not in other and self.is_closed(one[0], other, must)
        if word == "has":
            return one in self.slots.bad and self.leads_to(one[0], other, may, [one[1:]])
        return self.is_all(one, other, must, may)

    def is_all(self, closed, stages, must, may):
        """Return True if the two lists make a leaf "all" for the box."""
        worlds = list(range(len(self.slots.scenes)))
        if len(closed) != len(worlds) or len(stages) != len(worlds):
            return False
        for number in worlds:
            wanted = [example[1:] for example in self.slots.good if example[0] == number]
            barred = [example[1:] for example in self.slots.bad if example[0] == number]
            if any(fact in closed[number] for fact in barred) or not self.is_closed(number, closed[number], must):
                return False
            if not self.leads_to(number, stages[number], may, wanted):
                return False
        return True

    def is_closed(self, number, facts, mask):
        """Return True if the list has different facts of unknown relations that are closed under a theory."""
        key = ("facts", number, tuple(facts))
        if key not in self.seen:
            self.seen[key] = self.closed_state(number, facts)
        if self.seen[key] is None:
            return False
        truth, fresh = self.seen[key]
        scene = self.slots.scenes[number]
        return not any(scene.fires(body, truth) & fresh[name] for name, body in self.slots.rules_of(mask))

    def closed_state(self, number, facts):
        """Return where facts make atoms true, and which placings make others of each head; None if they are none."""
        if len(set(facts)) < len(facts) or not all(is_example(self.slots.task, (number, *fact)) for fact in facts):
            return None
        scene = self.slots.scenes[number]
        masks = {name: 0 for name in scene.places}
        for name, row in facts:
            masks[name] = masks[name] | scene.ground.fact_digit(row)
        return (scene.truth_of(masks), {name: scene.others(name, masks[name]) for name in masks})

    def leads_to(self, number, stages, mask, wanted):
        """Return True if the list has stages of a theory in a world, with all wanted facts, pairs (name, constants)."""
        key = ("stages", number, tuple(stages))
        if key not in self.seen:
            self.seen[key] = self.most_for(number, stages)
        if self.seen[key] is None or mask & ~self.seen[key]:
            return False
        return all(any(fact == step[0] for step in stages) for fact in wanted)

    def most_for(self, number, stages):
        """Return the mask of the theory with the greatest bodies of which these are stages, or None."""
        scene = self.slots.scenes[number]
        bodies = [self.slots.whole] * len(self.slots.names)
        earlier = {}
        for fact, rule, filling in stages:
            if not 0 <= rule < len(bodies) or fact[0] != self.slots.names[rule]:
                return None
            if not scene.is_placing(filling) or fact[1] != filling[:scene.places[fact[0]]]:
                return None
            told = (fact[0], scene.ground.fact_digit(fact[1]))
            if told in earlier:
                return None
            bodies[rule] = bodies[rule] & scene.body_at(scene.ground.fact_digit(filling), earlier)
            earlier[told] = True
        return self.slots.joined(bodies)
