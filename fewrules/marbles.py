"""Keeping lists: they show which examples no program of so many names can tell from others.

The pairs are kept as a list here: for each placing of the first world, in order, the mask of those of the second one.
"""

from fewrules.errors import TooLarge
from fewrules.fillings import check_example
from fewrules.parts import digits_of
from fewrules.scenes import Scene

MOST_PAIRS = 5000


class Keeping:
    """Two worlds, and for rows that make all rows where they lead from each placing, and from where to each one."""

    def __init__(self, first, second):
        self.first = first
        self.second = second
        rows = turning_rows(first.ground.names)
        self.ahead = [first.ground.along(row) for row in rows]
        self.behind = [sources(second.ground.along(row)) for row in rows]

    def matched(self):
        """Return the pairs in which the second placing makes all atoms true that the first one makes true."""
        pairs = [self.second.ground.everything] * self.first.ground.count
        for atom, places in self.first.holding.items():
            for digit in digits_of(places):
                at = digit.bit_length() - 1
                pairs[at] = pairs[at] & self.second.holding[atom]
        return pairs

    def backed(self, pairs, at):
        """Return those of the pairs of a placing for which the pairs that they ask for are there."""
        mask = pairs[at]
        if not mask:
            return 0
        for ahead, behind in zip(self.ahead, self.behind):
            mask = mask & sum([behind.get(digit, 0) for digit in digits_of(pairs[ahead[at]])])
        for name in range(self.first.ground.names):
            for other in self.first.ground.changed_at(at, name):
                mask = mask & self.second.ground.widened_at(pairs[other], name)
        return mask

    def greatest(self):
        """Return the pairs of the greatest keeping list."""
        pairs = self.matched()
        waits = True
        while waits:
            waits = False
            for at in range(len(pairs)):
                mask = self.backed(pairs, at)
                if mask != pairs[at]:
                    pairs[at] = mask
                    waits = True
        return pairs

    def is_list(self, pairs):
        """Return True if the pairs are those of a keeping list."""
        fine = self.matched()
        return all(not pairs[at] & ~fine[at] and self.backed(pairs, at) == pairs[at] for at in range(len(pairs)))

    def joins(self, pairs, example, other):
        """Return True if there is a pair of a filling of the first example and a filling of the other one."""
        wanted = self.second.filling_mask(other)
        return any(pairs[digit.bit_length() - 1] & wanted for digit in digits_of(self.first.filling_mask(example)))

    def told(self, pairs):
        """Return the list of the pairs of placings."""
        found = []
        for at, mask in enumerate(pairs):
            one = self.first.ground.placing_of(1 << at)
            found.extend([(one, self.second.ground.placing_of(digit)) for digit in digits_of(mask)])
        return found

    def read(self, told):
        """Return the pairs of a list of pairs of placings, or None if there are others in it."""
        pairs = [0] * self.first.ground.count
        for one, other in told:
            if not self.first.is_placing(one) or not self.second.is_placing(other):
                return None
            at = self.first.ground.fact_digit(one).bit_length() - 1
            pairs[at] = pairs[at] | self.second.ground.fact_digit(other)
        return pairs


def turning_rows(names):
    """Return rows of which, put behind one another, all rows are made: exchanges, and one with a name twice."""
    rows = []
    for name in range(1, names):
        row = list(range(names))
        row[0] = name
        row[name] = 0
        rows.append(tuple(row))
    if names > 1:
        rows.append((0, 0, *list(range(2, names))))
    return rows


def sources(ahead):
    """Return a table that tells for the digit of a placing the mask of those that lead to it."""
    found = {}
    for at, other in enumerate(ahead):
        found[1 << other] = found.get(1 << other, 0) | (1 << at)
    return found


def check_pairs(task, first, second):
    """Raise TooLarge if the pairs are too many for two worlds."""
    if count_placings(task, first) * count_placings(task, second) > MOST_PAIRS:
        raise TooLarge("pairs")


def check_all_pairs(task):
    """Raise TooLarge if the pairs are too many for some two worlds, or for one world and itself."""
    for number in range(len(task.worlds)):
        # For two different worlds they are not too many, if they are not for the larger one and itself.
        check_pairs(task, number, number)


def count_placings(task, number):
    """Return the number of the placings of a world."""
    count = 1
    for _ in range(task.names):
        count = count * len(task.worlds[number].constants)
    return count


def keeping_list(task, first, second):
    """Return the greatest keeping list for two worlds."""
    check_pairs(task, first, second)
    keeping = Keeping(Scene(task, first), Scene(task, second))
    return keeping.told(keeping.greatest())


def is_keeping(task, first, second, pairs):
    """Return True if the list is a keeping list for two worlds."""
    keeping = Keeping(Scene(task, first), Scene(task, second))
    read = keeping.read(pairs)
    return read is not None and keeping.is_list(read)


def joins(task, example, other, pairs):
    """Return True if a list of pairs of placings has one of a filling of the first example and one of the other one."""
    keeping = Keeping(Scene(task, example[0]), Scene(task, other[0]))
    read = keeping.read(pairs)
    return read is not None and keeping.joins(read, example, other)


def is_kept(task, example, other):
    """Return True if the example is kept onto the other one."""
    check_example(task, example)
    check_example(task, other)
    if example[1] != other[1]:
        return False
    check_pairs(task, example[0], other[0])
    return keeps_onto(task, {}, example, other)


def keeps_onto(task, kept, example, other):
    """Return True if the example is kept onto the other one; what is found of their worlds is kept in a table."""
    if example[1] != other[1]:
        return False
    key = (example[0], other[0])
    if key not in kept:
        keeping = Keeping(Scene(task, example[0]), Scene(task, other[0]))
        kept[key] = (keeping, keeping.greatest())
    keeping, pairs = kept[key]
    return keeping.joins(pairs, example, other)


def first_kept(task):
    """Return the first good example that is kept onto a bad one, and the first such bad one, or None."""
    check_all_pairs(task)
    kept = {}
    for good in task.good:
        for bad in task.bad:
            if keeps_onto(task, kept, good, bad):
                return (good, bad)
    return None
