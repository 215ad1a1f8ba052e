"""Least transversals, and what the sets of bad examples lack."""

from fewrules.errors import TooLarge
from fewrules.parts import MOST_SETS, bodies_of, digits_of, greatest_among, least_among, members_of, packed, unpacked
from fewrules.plain import bad_masks, check_plain, everything_of


def least(sets):
    """Return the list of the tuples that have no others as proper parts, each once, ascending."""
    numbers, masks = packed(sets)
    return unpacked(numbers, least_among(masks))


def meets_all(body, sets):
    """Return True if the tuple has a number in common with each tuple of the list."""
    have = {number: True for number in body}
    return all(any(number in have for number in row) for row in sets)


def least_transversals(sets):
    """Return the list of the least transversals of a list of ascending tuples."""
    numbers, masks = packed(sets)
    return unpacked(numbers, transversal_masks(masks))


def transversal_masks(masks):
    """Return the list of the least transversals of some masks; TooLarge if at any time there are too many."""
    found = [0]
    for mask in masks:
        found = widened(found, mask)
    return found


def widened(found, mask):
    """Return the list of the least transversals of further masks and this one, from that of those alone."""
    staying = [row for row in found if row & mask]
    missing = [row for row in found if not row & mask]
    made = list(staying)
    for digit in digits_of(mask):
        # Only what stays and meets the mask in this digit alone can be a part of what gets the digit.
        rivals = [row for row in staying if (row & mask) == digit]
        for row in missing:
            longer = row | digit
            if not any((rival & longer) == rival for rival in rivals):
                made.append(longer)
        if len(made) > MOST_SETS:
            raise TooLarge("sets")
    return made


def lacks(task):
    """Return the list of the least lacks of the bad examples."""
    check_plain(task)
    return bodies_of(lack_masks(everything_of(task), greatest_among(bad_masks(task)).masks))


def lack_masks(everything, bads):
    """Return, in the order of their tuples, the masks of the lacks of the greatest sets of bad examples."""
    return sorted([everything ^ mask for mask in bads], key=members_of)
