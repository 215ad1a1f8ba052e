"""Bodies, and other ascending tuples of numbers, as masks: the binary digits of a mask tell the members."""

from fewrules.errors import TooLarge

MOST_SETS = 2000


class Holders:
    """Masks in a list, and a table that tells for each digit, as a mask of their places, which of them have it."""

    def __init__(self):
        self.masks = []
        self.having = {}
        self.everyone = 0

    def put(self, mask):
        """Put a mask behind the others."""
        place = 1 << len(self.masks)
        self.masks.append(mask)
        self.everyone = self.everyone | place
        for digit in digits_of(mask):
            self.having[digit] = self.having.get(digit, 0) | place

    def holds(self, mask):
        """Return True if the mask is a part of one of the masks."""
        left = self.everyone
        while mask and left:
            digit = mask & -mask
            left = left & self.having.get(digit, 0)
            mask = mask ^ digit
        return left != 0


def mask_of(numbers):
    """Return the mask that has these numbers as its members."""
    mask = 0
    for number in numbers:
        mask = mask | (1 << number)
    return mask


def digits_of(mask):
    """Return the list of the masks of the single members, ascending."""
    digits = []
    while mask:
        digits.append(mask & -mask)
        mask = mask ^ digits[-1]
    return digits


def members_of(mask):
    """Return the ascending tuple of the members of a mask."""
    return tuple([digit.bit_length() - 1 for digit in digits_of(mask)])


def bodies_of(masks):
    """Return the ascending list of the tuples of the members of some masks."""
    return sorted([members_of(mask) for mask in masks])


def size_of(mask):
    """Return the number of the members of a mask."""
    return f"{mask:b}".count("1")


def size_below(mask, most):
    """Return the number of the members of a mask, or the greatest number that is told if it has as many or more."""
    size = 0
    while mask and size < most:
        mask = mask & (mask - 1)
        size = size + 1
    return size


def meets_of(masks, others):
    """Return the list of what a mask and one of the others have in common, each once."""
    return list({mask & other: True for mask in masks for other in others})


def greatest_among(masks, limit=None):
    """Return holders of the masks that are no proper parts of others, large ones first; TooLarge beyond a limit."""
    kept = Holders()
    for mask in sorted({one: True for one in masks}, key=size_of, reverse=True):
        if not kept.holds(mask):
            kept.put(mask)
            if limit is not None and len(kept.masks) > limit:
                raise TooLarge("sets")
    return kept


def least_among(masks):
    """Return the list of the masks that have no others as proper parts, each once."""
    everything = 0
    for mask in masks:
        everything = everything | mask
    # What is a part of another one has the greater rest.
    rests = greatest_among([everything ^ mask for mask in masks])
    return [everything ^ rest for rest in rests.masks]


def packed(rows):
    """Return the ascending list of the numbers in some tuples, and for each tuple the mask of their places in it."""
    numbers = sorted({number: True for row in rows for number in row})
    places = {number: place for place, number in enumerate(numbers)}
    return numbers, [mask_of([places[number] for number in row]) for row in rows]


def unpacked(numbers, masks):
    """Return the ascending list of the tuples of the numbers at the places that masks tell."""
    return sorted([tuple([numbers[place] for place in members_of(mask)]) for mask in masks])


def greatest_of(rows):
    """Return, ascending and each once, the ascending tuples that are no proper parts of others."""
    numbers, masks = packed(rows)
    return unpacked(numbers, greatest_among(masks).masks)
