"""The search for a body that covers good examples and no bad one."""

from fewrules.parts import digits_of, size_of

MOST_LOOKED_AT = 60


class Hunt:
    """Holders of the greatest sets of each of some good examples, those of all bad ones, and how many steps are left.

    The search adds atoms, masks of one digit, to a body. It keeps for each good example which of its sets still have
    all of the body (left), and which of the bad sets do (wrong), as masks of places in the holders. The names of the
    head and those of the atoms that were added are fixed.
    """

    def __init__(self, kin, goods, bads, steps):
        self.kin = kin
        self.goods = goods
        self.bads = bads
        self.steps = steps

    def is_cut(self):
        """Return True if the search ended because it took more steps than it may."""
        return self.steps < 0

    def body(self, everything):
        """Return the mask of a body of these atoms that is in a set of each good example and in no bad set, or None.

        It is None, too, if the search was cut.
        """
        left = [good.everyone for good in self.goods]
        return self.rest_of_body(left, self.bads.everyone, digits_of(everything), [], self.kin.head)

    def rest_of_body(self, left, wrong, atoms, tried, fixed):
        """Return the mask of some of the atoms that, put to the body so far, make it one, or None.

        No such body has an atom that was tried. So there is none if such an atom could be put to it for nothing.
        """
        self.steps = self.steps - 1
        if self.is_cut():
            return None
        free, others = self.sorted_out(left, atoms)
        wrong = self.wrong_with(wrong, free)
        if not wrong:
            return sum(free)
        if self.wrong_with(wrong, list(others)) or any(self.left_with(left, atom) == left for atom in tried):
            return None
        alike = self.kin.table_for(fixed)
        chosen = self.branches(wrong, list(others), alike)
        for atom in chosen:
            fewer = others.pop(atom)
            names = fixed | self.kin.names_of(atom)
            more = self.rest_of_body(fewer, self.wrong_with(wrong, [atom]), list(others), tried, names)
            if more is not None:
                return more | atom | sum(free)
            tried = [*tried, *alike[atom]]
            others = {other: places for other, places in others.items() if other not in alike[atom]}
        return None

    def sorted_out(self, left, atoms):
        """Return the list of the atoms that all sets that are left have, and what would be left with each other one.

        Atoms with which nothing would be left of a good example are left out.
        """
        free = []
        others = {}
        for atom in atoms:
            fewer = self.left_with(left, atom)
            if fewer == left:
                free.append(atom)
            elif all(fewer):
                others[atom] = fewer
        return free, others

    def left_with(self, left, atom):
        """Return for each good example those of the sets that have the atom."""
        return [places & good.having.get(atom, 0) for places, good in zip(left, self.goods)]

    def wrong_with(self, wrong, atoms):
        """Return those of the bad sets that have all of the atoms."""
        for atom in atoms:
            wrong = wrong & self.bads.having.get(atom, 0)
        return wrong

    def branches(self, wrong, atoms, alike):
        """Return those of the atoms that a bad set does not have, the ones first with which the fewest bad sets stay.

        A body must have one of them. The bad set with the fewest ones is taken, of some large ones. Of atoms that are
        alike one alone is told.
        """
        bads = [self.bads.masks[place.bit_length() - 1] for place in first_digits(wrong)]
        rows = [[atom for atom in atoms if not atom & bad] for bad in bads]
        found = []
        for atom in sorted(min(rows, key=len), key=lambda one: size_of(self.wrong_with(wrong, [one]))):
            if not any(other in alike[atom] for other in found):
                found.append(atom)
        return found


def first_digits(mask):
    """Return the list of the masks of the first members, ascending, up to a limit."""
    digits = []
    while mask and len(digits) < MOST_LOOKED_AT:
        digits.append(mask & -mask)
        mask = mask ^ digits[-1]
    return digits
