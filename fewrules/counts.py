"""How many theories for slots fit, and which of them come first.

All is told by nodes. A node stands for all boxes in which the same matters (matters.py). It has a group of atoms that
are the same for it, and two links: to what is left if some of the group are in the body, and if none is.
"""

from fewrules.matters import Matter
from fewrules.parts import digits_of, size_of
from fewrules.splits import Splits


class Node:
    """A group of atoms, the mask of all atoms from here on, and the number of the fitting theories of them."""

    def __init__(self, group, below, count):
        self.group = group
        self.below = below
        self.size = size_of(below)
        self.count = count
        self.some = None
        self.none = None


class Link:
    """A way to a node: there the atoms ins are in the bodies, the atoms outs are not, the atoms free do not matter."""

    def __init__(self, node, ins, outs, free):
        self.node = node
        self.ins = ins
        self.outs = outs
        self.free = free

    def worth(self, ins, outs):
        """Return the number of the fitting theories that have all atoms ins and none of the atoms outs."""
        if self.ins & outs or self.outs & ins:
            return 0
        return self.node.count << size_of(self.free & ~(ins | outs))


class Counts:
    """The nodes of the whole box of some slots, and the number of the fitting theories.

    To number them the atoms are decided in order; then the counts of the nodes are for what is decided so far.
    """

    def __init__(self, slots):
        self.slots = slots
        self.splits = Splits(slots, True)
        self.nothing = Node(0, 0, 0)
        self.anything = Node(0, 0, 1)
        self.same = {}
        self.order = []
        self.root = self.grown()
        self.order = sorted(self.order, key=lambda node: node.size)
        self.ins = 0
        self.outs = 0
        for node in self.order:
            node.count = self.ways(node)
        self.first = [(node, node.count) for node in self.order]
        self.total = self.left()

    def grown(self):
        """Make all nodes, and return the link to that of the whole box."""
        waiting = []
        root = self.link_to(0, self.slots.everything, waiting)
        while waiting:
            node, must, may = waiting.pop()
            digit = node.group & -node.group
            node.some = self.link_to(must | digit, may & ~(node.group ^ digit), waiting)
            node.none = self.link_to(must, may & ~node.group, waiting)
        return root

    def link_to(self, must, may, waiting):
        """Return the link to a box; if its node is a new one, what is left of the box is put to those that wait."""
        ins = must
        outs = self.slots.everything & ~may
        free = 0
        while True:
            word, told, must, may = self.said_of(must, may)
            if word == "leaf":
                return Link(self.nothing, 0, 0, 0)
            fixed = must & ~ins
            left = self.slots.everything & ~may & ~outs & ~free
            if word == "all":
                return Link(self.anything, fixed, left, free | (may & ~must))
            matter = Matter(self.slots, must, may)
            free = free | matter.free
            may = may & ~matter.free
            group = matter.group_with(told)
            if group and matter.key not in self.same:
                self.same[matter.key] = self.node_for(group, must, may, waiting)
            if matter.key in self.same:
                return Link(self.same[matter.key], fixed, left, free)

    def node_for(self, group, must, may, waiting):
        """Return a new node, and put its box to those that wait."""
        node = Node(group, may & ~must, None)
        self.order.append(node)
        waiting.append((node, must, may))
        return node

    def said_of(self, must, may):
        """Return what there is to be said of a box, and the box narrowed down; without calls splits are left open."""
        if not self.slots.task.calls:
            word, told = self.said_without_calls(must, may)
            return (word, told, must, may)
        box = self.splits.narrowed_box(must, may)
        if box is None:
            return ("leaf", None, must, may)
        must, may, choices = box
        word, told = self.splits.look(must, may, choices)
        return (word, told, must, may)

    def said_without_calls(self, must, may):
        """Return what there is to be said of a box, a word and an atom or 0."""
        if self.slots.wrong(may) is not None or self.slots.lacking(must) is not None:
            return ("leaf", None)
        if self.slots.fits(may) and self.slots.fits(must):
            return ("all", None)
        return ("split", 0)

    def ways(self, node):
        """Return the number of the fitting theories of a node by what is decided."""
        left = size_of(node.group & ~(self.ins | self.outs))
        some = node.some.worth(self.ins, self.outs)
        if node.group & self.ins:
            return some << left
        return some * ((1 << left) - 1) + node.none.worth(self.ins, self.outs)

    def left(self):
        """Return the number of the fitting theories by what is decided."""
        return self.root.worth(self.ins, self.outs)

    def begin(self):
        """Take all decisions back."""
        self.ins = 0
        self.outs = 0
        self.order = [node for node, _ in self.first]
        for node, count in self.first:
            node.count = count

    def left_without(self, digit):
        """Leave an atom out, and return the number of the fitting theories that are left."""
        # Where nothing is left, nothing comes back behind what is decided for good.
        self.order = [node for node in self.order if node.count]
        self.outs = self.outs | digit
        self.count_again(digit)
        return self.left()

    def put_in(self, digit):
        """Put an atom in that was left out last."""
        self.outs = self.outs ^ digit
        self.ins = self.ins | digit
        self.count_again(digit)

    def count_again(self, digit):
        """Count what is left at the nodes for which an atom matters."""
        for node in self.order:
            if node.below & digit:
                node.count = self.ways(node)

    def theory_at(self, number):
        """Return the mask of the fitting theory with this number, or None if there is none."""
        if not 0 <= number < self.total:
            return None
        self.begin()
        theory = 0
        for digit in digits_of(self.slots.everything):
            without = self.left_without(digit)
            if number >= without:
                # The theories without the atom come first.
                number = number - without
                theory = theory | digit
                self.put_in(digit)
        return theory

    def number_at(self, theory):
        """Return the number of a fitting theory, told as a mask."""
        self.begin()
        number = 0
        for digit in digits_of(self.slots.everything):
            without = self.left_without(digit)
            if theory & digit:
                number = number + without
                self.put_in(digit)
        return number
