"""Easy and hard lots of good examples, and papers of hard ones."""

from itertools import combinations

from fewrules.fields import field_of
from fewrules.parts import mask_of, members_of
from fewrules.plain import check_plain
from fewrules.tables import accepts_table, bad_fillings, bad_sets, good_sets, levels_for


def is_easy(task, lot):
    """Return True if a rule fits for the lot."""
    check_plain(task)
    return field_of(task).body_for(mask_of(lot)) is not None


def hard_lots(task):
    """Return the list of the least hard lots: those with fewer examples first, equally large ones ascending."""
    check_plain(task)
    return least_hard(field_of(task))


def least_hard(field):
    """Return the list of the least hard lots of a field."""
    found = []
    numbers = list(range(len(field.goods)))
    for size in range(1, len(numbers) + 1):
        for lot in combinations(numbers, size):
            mask = mask_of(lot)
            if not any((mask & hard) == hard for hard in found) and field.body_for(mask) is None:
                found.append(mask)
    return [members_of(mask) for mask in found]


def lot_paper(task):
    """Return the list of the tuples (lot, table) for all least hard lots."""
    check_plain(task)
    field = field_of(task)
    return paper_for(task, field, least_hard(field))


def paper_for(task, field, lots):
    """Return the list of the tuples (lot, table) for hard lots."""
    bads = bad_fillings(task)
    return [(lot, (levels_for(field, lot), list(bads))) for lot in lots]


def judge_lots(task, paper):
    """Return True if the paper is accepted."""
    check_plain(task)
    if not all(is_lot(task, lot) for lot, _ in paper):
        return False
    goods = good_sets(task, list(range(len(task.good))))
    bads = bad_sets(task)
    return all(accepts_table(task, goods, bads, lot, table) for lot, table in paper)


def is_lot(task, lot):
    """Return True if the tuple is a lot with at least one example."""
    if len(lot) == 0 or not all(0 <= number < len(task.good) for number in lot):
        return False
    return all(first < second for first, second in zip(lot, lot[1:]))
