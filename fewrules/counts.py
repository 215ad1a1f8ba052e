"""How many theories for slots fit, and which of them come first.

All is told by nodes. A node stands for all boxes in which the same matters (matters.py). It has a group of atoms that
are the same for it, and two links: to what is left if some of the group are in the body, and if none is. A link is a
pair (node, free): the atoms of the mask free do not matter behind it.
"""

from fewrules.matters import Matter
from fewrules.parts import digits_of, size_of
from fewrules.splits import Splits


class Node:
    """A group of atoms, the mask of all atoms from here on, and the number of the fitting theories of them."""

    def __init__(self, group, below, count):
        self.group = group
        self.below = below
        self.size = size_of(below)
        self.count = count
        self.some = None
        self.none = None


class Counts:
    """The nodes of the whole box of some slots."""

    def __init__(self, slots):
        self.slots = slots
        self.splits = Splits(slots, True)
        self.wrong = Node(0, 0, 0)
        self.right = Node(0, 0, 1)
        self.same = {}
        self.order = []
        self.root = self.grown()
        self.order = sorted(self.order, key=lambda node: node.size)
        for node in self.order:
            node.count = ways(node, 0, 0, worth(node.some, 0), worth(node.none, 0))

    def grown(self):
        """Make all nodes, and return the link to that of the whole box."""
        waiting = []
        root = self.link_to(0, self.slots.everything, waiting)
        while waiting:
            node, must, may = waiting.pop()
            digit = node.group & -node.group
            node.some = self.link_to(must | digit, may & ~(node.group ^ digit), waiting)
            node.none = self.link_to(must, may & ~node.group, waiting)
        return root

    def link_to(self, must, may, waiting):
        """Return the link to a box; if its node is a new one, what is left of the box is put to those that wait."""
        free = 0
        while True:
            word, told = self.said_of(must, may)
            if word == "leaf":
                return (self.wrong, 0)
            if word == "all":
                return (self.right, free | (may & ~must))
            matter = None if word == "forced" else Matter(self.slots, must, may)
            if matter is None:
                return (self.node_for(told, must, may, waiting), free)
            free = free | matter.free
            may = may & ~matter.free
            if matter.key in self.same:
                return (self.same[matter.key], free)
            group = matter.group_with(told)
            if group:
                self.same[matter.key] = self.node_for(group, must, may, waiting)
                return (self.same[matter.key], free)

    def node_for(self, group, must, may, waiting):
        """Return a new node, and put its box to those that wait."""
        node = Node(group, may & ~must, None)
        self.order.append(node)
        waiting.append((node, must, may))
        return node

    def said_of(self, must, may):
        """Return what there is to be said of a box, as the search tells it; without calls all splits are left open."""
        if self.slots.task.calls:
            return self.splits.look(must, may)
        if self.slots.wrong(may) is not None or self.slots.lacking(must) is not None:
            return ("leaf", None)
        if self.slots.fits(may) and self.slots.fits(must):
            return ("all", None)
        return ("split", 0)

    def count_within(self, ins, outs):
        """Return the number of the fitting theories that have all atoms ins and none of the atoms outs."""
        decided = ins | outs
        before = [(node, node.count) for node in self.order if node.below & decided]
        for node, _ in before:
            node.count = ways(node, ins, outs, worth(node.some, decided), worth(node.none, decided))
        found = worth(self.root, decided)
        for node, count in before:
            node.count = count
        return found

    def theory_at(self, number):
        """Return the mask of the fitting theory with this number, or None if there is none."""
        if not 0 <= number < self.count_within(0, 0):
            return None
        ins = 0
        outs = 0
        for digit in digits_of(self.slots.everything):
            without = self.count_within(ins, outs | digit)
            if number < without:
                outs = outs | digit
            else:
                number = number - without
                ins = ins | digit
        return ins

    def number_at(self, theory):
        """Return the number of a fitting theory, told as a mask."""
        number = 0
        ahead = 0
        for digit in digits_of(theory):
            # The theories that are the same up to this atom, and do not have it, come first.
            number = number + self.count_within(ahead, digit | ((digit - 1) & ~theory))
            ahead = ahead | digit
        return number


def worth(link, decided):
    """Return the number of the fitting theories behind a link, where some atoms are decided."""
    node, free = link
    return node.count << size_of(free & ~decided)


def ways(node, ins, outs, some, none):
    """Return the number of the fitting theories of a node, from those of its links, where some atoms are decided."""
    left = size_of(node.group & ~(ins | outs))
    if node.group & ins:
        return some << left
    return some * ((1 << left) - 1) + none
