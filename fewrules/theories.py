"""Theories of few rules for plain tasks, and refusals that show that there are none."""

from fewrules.colours import colour_tree, first_colouring, judge_colours
from fewrules.edges import parts_among
from fewrules.fields import field_of
from fewrules.fillings import covers
from fewrules.lots import judge_lots, least_hard, paper_for
from fewrules.meets import meet_masks
from fewrules.parts import bodies_of, mask_of, members_of
from fewrules.plain import check_plain
from fewrules.rules import check_theory
from fewrules.tables import bad_fillings
from fewrules.transversals import lack_masks, transversal_masks


def theory(task, k):
    """Return the theory of at most k rules that is told, or None if none fits."""
    check_plain(task)
    return theory_from(field_of(task), task.signature.unknown[0][0], k)


def theory_from(field, name, k):
    """Return the theory of at most k rules of the relation with this name that is told, or None if none fits."""
    lots = easy_lots(field, k)
    if lots is None:
        return None
    # Without a lot there is no rule to look for, and nothing that may be too large.
    spread = transversal_masks(lack_masks(field.everything, field.bads.masks)) if lots else []
    return [(name, first_general(field, lot, spread)) for lot in lots]


def easy_lots(field, k):
    """Return, as masks, the lots of each colour of the least colouring with k colours, or None if there is none."""
    colours = first_colouring(len(field.goods), k, lambda told: field.body_for(lot_of_last(told)) is not None)
    if colours is None:
        return None
    return [lot_of(colours, colour) for colour in range(max(colours, default=-1) + 1)]


def lot_of(colours, colour):
    """Return the mask of the things of a colour."""
    return mask_of([thing for thing, other in enumerate(colours) if other == colour])


def lot_of_last(colours):
    """Return the mask of the things that have the colour of the last one."""
    return lot_of(colours, colours[-1])


def first_general(field, lot, spread):
    """Return the first most general body for a lot; the least transversals of all lacks are told."""
    meets = meet_masks(field.everything, [field.goods[number].masks for number in members_of(lot)])
    return bodies_of(parts_among(spread, meets))[0]


def least_k(task):
    """Return the least number of rules of a theory that fits, or None if there is none."""
    check_plain(task)
    field = field_of(task)
    for k in range(len(task.good) + 1):
        if easy_lots(field, k) is not None:
            return k
    return None


def refusal(task, k):
    """Return the refusal for k that is told, or None if a theory of at most k rules fits."""
    check_plain(task)
    field = field_of(task)
    if easy_lots(field, k) is not None:
        return None
    return refusal_from(field, bad_fillings(task), k)


def refusal_from(field, bads, k):
    """Return the refusal for k that is told, where there is one; the fillings of the bad examples are told."""
    lots = least_hard(field)
    return (paper_for(field, bads, lots), colour_tree(len(field.goods), lots, k))


def judge_theory(task, rules):
    """Return True if the theory fits."""
    check_plain(task)
    check_theory(task, rules)
    if not all(is_said(task, rules, example) for example in task.good):
        return False
    return not any(is_said(task, rules, example) for example in task.bad)


def is_said(task, rules, example):
    """Return True if the body of a rule covers the example."""
    return any(covers(task, body, example) is not None for _, body in rules)


def judge_refusal(task, k, told):
    """Return True if the refusal for k is accepted."""
    paper, tree = told
    if not judge_lots(task, paper):
        return False
    return judge_colours(len(task.good), [lot for lot, _ in paper], k, tree)
