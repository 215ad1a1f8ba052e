"""The search for theories for slots that fit, and for trees that show what is in a box.

A box is told as two masks, must and may. A tree is a leaf, a tuple ("all", must, may) or a tuple ("split", digit,
first, second). A finding is a tuple (tree, ins, outs): it is a tree for each box that has the atoms ins in must and
none of the atoms outs in may.
"""

from fewrules.leaves import Leaf, lack_leaf, narrowed, widened, wrong_leaf
from fewrules.parts import digits_of, size_below, size_of

MOST_LEAVES = 400
MOST_COUNTED = 6


class Splits:
    """Slots, and leaves that were found; by them most boxes are seen through without looking at any world.

    If all fitting theories are wanted, the search goes on where it has found one.
    """

    def __init__(self, slots, wants_all):
        self.slots = slots
        self.wants_all = wants_all
        self.wrongs = []
        self.lacks = []
        self.below = []
        self.above = []
        self.way = 0

    def leave_out_below(self, mask):
        """Leave all theories out that have only atoms of the mask."""
        self.below.append(Leaf("has", None, [], self.slots.everything & ~mask))

    def leave_out_above(self, mask):
        """Leave all theories out that have all atoms of the mask."""
        self.above.append(Leaf("lacks", None, [], mask))

    def search(self, must, may, limit, take=None):
        """Return ("theory", mask) with a theory of the box that fits, or ("tree", tree); None behind so many looks.

        If there is a function that takes theories, which must leave each of them out, the search goes on behind them.
        """
        waiting = []
        looks = 0
        while limit is None or looks < limit:
            looks = looks + 1
            word, told = self.look(must, may, self.choices_in(must, may))
            if word == "theory" and take is None:
                return (word, told)
            if word == "theory":
                take(told)
                continue
            if word == "split":
                waiting.append([must, may, told, None])
                must = must | told
                continue
            if word == "forced":
                must, may = forced_box(waiting, must, may, told)
                continue
            finding = closed_up(waiting, finding_of(word, told, must, may))
            if finding is not None:
                return ("tree", finding[0])
            must, may, digit, _ = waiting[-1]
            may = may & ~digit
        return None

    def look(self, must, may, choices):
        """Return what there is to be said of a box with these choices, a pair of a word and what belongs to it."""
        leaf, least = least_choice(choices)
        if leaf is not None:
            return ("leaf", leaf)
        if least and least & (least - 1) == 0:
            return ("forced", choices)
        bad = self.slots.wrong(may)
        if bad is not None:
            return ("leaf", keep(self.wrongs, wrong_leaf(self.slots, may, bad)))
        good = self.slots.lacking(must)
        if good is not None:
            return ("leaf", keep(self.lacks, lack_leaf(self.slots, must, good)))
        return self.look_at_edges(must, may, choices, least)

    def look_at_edges(self, must, may, choices, least):
        """Return what there is to be said of a box of which the theory may has no bad example, and must lacks none."""
        good = self.slots.lacking(may)
        bad = self.slots.wrong(must)
        if good is None and bad is None and self.wants_all:
            return ("all", None)
        if not self.wants_all and good is None and not any(not leaf.mask & ~may for leaf in self.above):
            return ("theory", may)
        if not self.wants_all and bad is None and not any(not leaf.mask & must for leaf in self.below):
            return ("theory", must)
        if not choices:
            self.learn(must, may, good, bad)
            choices = self.choices_in(must, may)
            least = least_choice(choices)[1]
        return ("split", self.best_of(least, choices))

    def learn(self, must, may, good, bad):
        """Keep leaves that tell of the box: may lacks the good example, must has the bad one, if they are there."""
        slots = self.slots
        between = may & ~must
        if bad is not None:
            wide = widened(must, between, lambda mask: slots.gives(mask, bad))
            wide = widened(wide, slots.everything & ~may, lambda mask: slots.gives(mask, bad))
            keep(self.wrongs, wrong_leaf(slots, wide, bad))
        if good is not None:
            narrow = narrowed(may, between, lambda mask: not slots.gives(mask, good))
            narrow = narrowed(narrow, must, lambda mask: not slots.gives(mask, good))
            keep(self.lacks, lack_leaf(slots, narrow, good))

    def narrowed_box(self, must, may):
        """Return the box without what known leaves rule out atom by atom, with its choices, or None if it is empty."""
        while not must & ~may:
            choices = self.choices_in(must, may)
            forced = [(choice, leaf) for choice, leaf in choices if not choice & (choice - 1)]
            if not forced:
                return (must, may, choices)
            for choice, leaf in forced:
                if not choice:
                    return None
                if leaf.word == "has":
                    must = must | choice
                else:
                    may = may & ~choice
        return None

    def choices_in(self, must, may):
        """Return for each leaf that the box does not rule out the choice that it leaves, and the leaf.

        The choice is a mask of atoms: one of them must be put to must, or one of them taken out of may.
        """
        out = ~may
        found = [(may & leaf.mask, leaf) for leaf in self.wrongs + self.below if not must & leaf.mask]
        found.extend([(leaf.mask & ~must, leaf) for leaf in self.lacks + self.above if not leaf.mask & out])
        return found

    def best_of(self, least, choices):
        """Return the digit of the atom of a choice that settles the most, small choices counting more."""
        score = {digit: 0 for digit in digits_of(least)}
        for choice, _ in choices:
            common = choice & least
            if common:
                worth = 1 << ((MOST_COUNTED - size_below(choice, MOST_COUNTED)) * 2)
                for digit in digits_of(common):
                    score[digit] = score[digit] + worth
        return max(score, key=lambda digit: (score[digit], (digit.bit_length() * self.way) % 31))


def least_choice(choices):
    """Return a leaf that leaves no choice at all, or None, and the choice of the fewest atoms, 0 if there is none."""
    best = 0
    least = None
    for choice, leaf in choices:
        if not choice:
            return leaf, 0
        if least is None or size_below(choice, least) < least:
            best = choice
            least = size_of(choice)
    return None, best


def forced_box(waiting, must, may, choices):
    """Split a box at all atoms for which there is no choice; return what is left of it."""
    for digit, leaf in choices:
        if not digit & (digit - 1) and digit & may & ~must:
            if leaf.word == "has":
                waiting.append([must, may, digit, None])
                must = must | digit
            else:
                waiting.append([must, may, digit, (leaf, leaf.mask, 0)])
                may = may & ~digit
    return must, may


def keep(leaves, leaf):
    """Put a leaf to those that are kept, older ones being dropped, and return it."""
    if len(leaves) >= MOST_LEAVES:
        del leaves[:MOST_LEAVES // 2]
    leaves.append(leaf)
    return leaf


def finding_of(word, told, must, may):
    """Return the finding of a box that needs no split."""
    if word == "all":
        return (("all", must, may), must, ~may)
    if told.word == "lacks":
        return (told, told.mask, 0)
    return (told, 0, told.mask)


def closed_up(waiting, finding):
    """Close the boxes that wait for a finding; return None if the second half of the last one is left to look at."""
    while waiting:
        frame = waiting[-1]
        _, _, digit, first = frame
        if first is None and finding[1] & digit:
            frame[3] = finding
            return None
        if first is not None and finding[2] & digit:
            tree = ("split", digit, first[0], finding[0])
            finding = (tree, (first[1] & ~digit) | finding[1], first[2] | (finding[2] & ~digit))
        # A half that does not need its atom stands for the whole box.
        waiting.pop()
    return finding
