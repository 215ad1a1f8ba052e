"""Easy and hard lots of good examples, and papers of hard ones."""

from itertools import combinations

from fewrules.fields import field_of
from fewrules.parts import mask_of, members_of
from fewrules.plain import check_plain
from fewrules.tables import accepts_table, bad_fillings, bad_sets, good_sets, levels_for


def is_easy(task, lot):
    """Return True if a rule fits for the lot."""
    check_plain(task)
    return field_of(task).body_for(mask_of(lot)) is not None


def hard_lots(task):
    """Return the list of the least hard lots: those with fewer examples first, equally large ones ascending."""
    check_plain(task)
    return least_hard(field_of(task))


def least_hard(field):
    """Return the list of the least hard lots of a field."""
    found = []
    numbers = list(range(len(field.goods)))
    for size in range(1, len(numbers) + 1):
        for lot in combinations(numbers, size):
            mask = mask_of(lot)
            if not any((mask & hard) == hard for hard in found) and field.body_for(mask) is None:
                found.append(mask)
    return [members_of(mask) for mask in found]


def lot_paper(task):
    """Return the list of the tuples (lot, table) for all least hard lots."""
    check_plain(task)
    field = field_of(task)
    return paper_for(field, bad_fillings(task), least_hard(field))


def paper_for(field, bads, lots):
    """Return the list of the tuples (lot, table) for hard lots; the fillings of the bad examples are told."""
    return [(lot, (levels_for(field, lot), list(bads))) for lot in lots]


def judge_lots(task, paper):
    """Return True if the paper is accepted."""
    check_plain(task)
    return accepts_lots(task, good_sets(task, list(range(len(task.good)))), bad_sets(task), paper)


def accepts_lots(task, goods, bads, paper):
    """Return True if the paper is accepted; the sets of the good and of the bad examples are told."""
    if not all(is_lot(len(goods), lot) for lot, _ in paper):
        return False
    return all(accepts_table(task, goods, bads, lot, table) for lot, table in paper)


def is_lot(count, lot):
    """Return True if the tuple is a lot of so many good examples, with at least one."""
    if len(lot) == 0 or not all(0 <= number < count for number in lot):
        return False
    return all(first < second for first, second in zip(lot, lot[1:]))
