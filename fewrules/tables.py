"""Tables of none: they show that no rule fits for a lot."""

from fewrules.fields import field_of
from fewrules.fillings import fillings, set_of, sets_of
from fewrules.parts import bodies_of, greatest_among, mask_of, meets_of
from fewrules.plain import check_plain, everything_of, set_masks
from fewrules.tasks import is_body


def none_table(task, lot):
    """Return the table of none for a lot, or None if a rule fits for it."""
    check_plain(task)
    field = field_of(task)
    if field.body_for(mask_of(lot)) is not None:
        return None
    return (levels_for(field, lot), bad_fillings(task))


def bad_fillings(task):
    """Return the list of the tuples (number, filling) for the greatest sets of the bad examples."""
    return [(number, filling) for number, example in enumerate(task.bad) for _, filling in sets_of(task, example)]


def levels_for(field, lot):
    """Return the list of the levels of the table for a lot."""
    masks = [mask_of(lot[:count]) for count in range(len(lot) + 1)]
    return [bodies_of(field.whole_level(mask)) for mask in masks]


def judge_table(task, lot, table):
    """Return True if the table is accepted for the lot."""
    check_plain(task)
    return accepts_table(task, good_sets(task, lot), bad_sets(task), lot, table)


def good_sets(task, numbers):
    """Return a table that tells the masks of the greatest sets of the good examples with these numbers."""
    return {number: set_masks(task, task.good[number]) for number in numbers}


def bad_sets(task):
    """Return a table that tells the mask of the set of each tuple (number, filling) of a bad example."""
    return {
        (number, filling): mask_of(set_of(task, example[0], filling))
        for number, example in enumerate(task.bad)
        for filling in fillings(task, example)
    }


def accepts_table(task, goods, bads, lot, table):
    """Return True if the table is accepted for a lot, which is one; the sets of the examples are told."""
    if len(table) != 2 or not all(row in bads for row in table[1]):
        return False
    levels = table[0]
    if len(levels) != len(lot) + 1 or len(levels[-1]) > 0:
        return False
    if not all(is_body(task, body) for level in levels for body in level):
        return False
    wrong = greatest_among([bads[row] for row in table[1]])
    masks = [everything_of(task)]
    for at, level in enumerate(levels):
        caught = [mask_of(body) for body in level]
        if not are_caught(masks, greatest_among(caught), wrong):
            return False
        if at < len(lot):
            # What the other sets make are parts of what the greatest ones make.
            masks = meets_of(caught, goods[lot[at]])
    return True


def are_caught(masks, level, wrong):
    """Return True if each mask is in a body of the level, or in a set of a bad example."""
    return all(wrong.holds(mask) or level.holds(mask) for mask in masks)
