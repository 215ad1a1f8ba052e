"""Atoms and bodies that differ only in names that stand for nothing in particular."""

from itertools import permutations

from fewrules.parts import digits_of, mask_of


class Kin:
    """The atoms of a plain task, and which of them are alike under exchanges of names.

    Such exchanges make fillings of an example from its fillings, if they leave the names of the head as they are. So
    they make sets of it from its sets, and what fits for a lot from what fits for it.
    """

    def __init__(self, atoms, names, places):
        self.atoms = atoms
        self.head = (1 << places) - 1
        self.exchanges = all_exchanges(atoms, names, places)
        self.tables = {}

    def names_of(self, digit):
        """Return the mask of the names of an atom, which is told as a mask of one digit."""
        return mask_of(self.atoms[digit.bit_length() - 1][1])

    def table_for(self, fixed):
        """Return a table that tells for each atom all that differ from it only in names other than the fixed ones."""
        if fixed not in self.tables:
            groups = {}
            for number, atom in enumerate(self.atoms):
                groups.setdefault(pattern_of(atom, fixed), []).append(1 << number)
            self.tables[fixed] = {digit: group for group in groups.values() for digit in group}
        return self.tables[fixed]

    def images_of(self, mask):
        """Return the list of the masks that exchanges of names make of this one."""
        digits = digits_of(mask)
        return [sum([table[digit] for digit in digits]) for table in self.exchanges]

    def one_each(self, masks):
        """Return the list of the masks, with one alone of those that are made of one another."""
        kept = []
        made = {}
        for mask in masks:
            if mask not in made:
                kept.append(mask)
                for image in self.images_of(mask):
                    made[image] = True
        return kept


def pattern_of(atom, fixed):
    """Return what an atom has in common with those that differ from it only in names other than the fixed ones."""
    name, names = atom
    order = {}
    for one in names:
        order.setdefault(one, one if fixed & (1 << one) else -1 - len(order))
    return (name, tuple([order[one] for one in names]))


def all_exchanges(atoms, names, places):
    """Return for each exchange of the names behind those of the head a table of what it makes of each atom."""
    digits = {atom: 1 << number for number, atom in enumerate(atoms)}
    found = []
    for row in permutations(list(range(places, names))):
        order = list(range(places)) + list(row)
        found.append({digits[atom]: digits[exchanged(atom, order)] for atom in atoms})
    return found


def exchanged(atom, order):
    """Return the atom with other names, which a list tells."""
    return (atom[0], tuple([order[one] for one in atom[1]]))
