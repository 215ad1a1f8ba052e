"""What greatest sets of good examples have in common."""

from fewrules.parts import MOST_SETS, bodies_of, greatest_among, greatest_of, meets_of
from fewrules.plain import check_plain, everything_of, good_masks


def greatest(sets):
    """Return the list of the tuples that are no proper parts of others, each once, ascending."""
    return greatest_of(sets)


def meet(first, second):
    """Return the tuple of the numbers that are in both tuples."""
    have = {number: True for number in second}
    return tuple([number for number in first if number in have])


def greatest_meets(task):
    """Return the list of the greatest meets of all good examples."""
    check_plain(task)
    return bodies_of(meet_masks(everything_of(task), good_masks(task)))


def meet_masks(everything, families):
    """Return the list of the masks of the greatest meets of examples with these lists of greatest sets."""
    masks = [everything]
    for sets in families:
        masks = greatest_among(meets_of(masks, sets), MOST_SETS).masks
    return masks
