"""The placings of a world as masks: the binary digits of a mask tell placings, in their order.

A fact of a relation with r places stands for the first placing that begins with its constants; so the facts of a
relation are a mask, too.
"""

from fewrules.parts import digits_of

MOST_KEPT = 20000


class Ground:
    """The placings of a world with these constants, each with so many of them.

    Tells with a mask where each name has each constant, and of a number of places where the facts of such a relation
    stand (anchors), and how many placings begin with the same constants (widths).
    """

    def __init__(self, constants, names):
        self.constants = list(constants)
        self.names = names
        sizes = [1]
        for _ in range(names):
            sizes.append(sizes[-1] * len(constants))
        self.widths = sizes[::-1]
        self.count = sizes[-1]
        self.everything = (1 << self.count) - 1
        self.having = [self.places_having(sizes[-2 - name]) for name in range(names)]
        self.anchors = [self.first_ones(places) for places in range(names + 1)]
        self.spreads = {}
        self.truths = {}

    def places_having(self, width):
        """Return the list of the masks of the placings that have each constant at a place, which has this width."""
        period = width * len(self.constants)
        repeated = self.everything // ((1 << period) - 1)
        return [(((1 << width) - 1) << (width * at)) * repeated for at in range(len(self.constants))]

    def first_ones(self, places):
        """Return the mask of the placings that have the first constant behind so many places."""
        mask = self.everything
        for name in range(places, self.names):
            mask = mask & self.having[name][0]
        return mask

    def heads(self, mask, places):
        """Return the mask of the facts of a relation with so many places that these placings make of its head."""
        width = self.widths[places]
        done = 1
        while done < width:
            step = min(done, width - done)
            mask = mask | (mask >> step)
            done = done + step
        return mask & self.anchors[places]

    def row_of(self, digit):
        """Return the tuple of the places of the constants of a placing, which is told as a mask of one digit."""
        at = digit.bit_length() - 1
        row = []
        for width in self.widths[1:]:
            row.append(at // width)
            at = at % width
        return tuple(row)

    def placing_of(self, digit):
        """Return the placing of a mask of one digit."""
        return tuple([self.constants[at] for at in self.row_of(digit)])

    def fact_digit(self, row):
        """Return the digit of the fact, or the placing, with these constants, which are the world's."""
        return self.digit_of([self.constants.index(constant) for constant in row])

    def digit_of(self, row):
        """Return the digit of the fact, or the placing, with the constants at these places."""
        return 1 << sum([at * width for at, width in zip(row, self.widths[1:])])

    def matching(self, names, row):
        """Return the mask of the placings that give names, one after the other, the constants at these places."""
        mask = self.everything
        for name, at in zip(names, row):
            mask = mask & self.having[name][at]
        return mask

    def spread(self, names, digit):
        """Return the mask of the placings that make the fact with this digit of an atom with these names."""
        key = (names, digit.bit_length())
        if key not in self.spreads:
            self.spreads[key] = self.matching(names, self.row_of(digit))
        return self.spreads[key]

    def truth(self, names, facts):
        """Return the mask of the placings that make one of some facts of an atom with these names."""
        key = (names, facts)
        if key not in self.truths:
            if len(self.truths) > MOST_KEPT:
                self.truths = {}
            mask = 0
            for digit in digits_of(facts):
                mask = mask | self.spread(names, digit)
            self.truths[key] = mask
        return self.truths[key]

    def number_of(self, row):
        """Return the number of the placing with the constants at these places."""
        return self.digit_of(row).bit_length() - 1

    def along(self, row):
        """Return for each placing the number of the one along a row."""
        placings = [self.row_of(1 << at) for at in range(self.count)]
        return [self.number_of([one[name] for name in row]) for one in placings]

    def changed_at(self, number, name):
        """Return the list of the numbers of the placings that differ from one at a name alone, and its own."""
        width = self.widths[name + 1]
        size = len(self.constants)
        first = number - (number // width % size) * width
        return [first + width * at for at in range(size)]

    def widened_at(self, mask, name):
        """Return the mask of the placings that differ from one of some placings at a name at most."""
        width = self.widths[name + 1]
        first = 0
        step = 0
        for at, having in enumerate(self.having[name]):
            first = first | ((mask & having) >> (width * at))
            step = step | (1 << (width * at))
        return first * step
