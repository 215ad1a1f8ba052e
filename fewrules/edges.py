"""Bodies that fit, and the most special and most general ones of them."""

from fewrules.errors import InvalidBody
from fewrules.fillings import covers
from fewrules.meets import meet_masks
from fewrules.parts import bodies_of, greatest_among
from fewrules.plain import bad_masks, check_plain, everything_of, good_masks
from fewrules.tasks import is_body
from fewrules.transversals import lack_masks, transversal_masks


def fits(task, body):
    """Return True if the body covers all good examples and no bad one."""
    check_plain(task)
    if not is_body(task, body):
        raise InvalidBody("body")
    if any(covers(task, body, example) is None for example in task.good):
        return False
    return all(covers(task, body, example) is None for example in task.bad)


def most_special(task):
    """Return the list of the most special bodies that fit."""
    check_plain(task)
    return bodies_of(special_masks(task))


def special_masks(task):
    """Return the list of the masks of the most special bodies that fit."""
    bads = greatest_among(bad_masks(task))
    return [mask for mask in meet_masks(everything_of(task), good_masks(task)) if not bads.holds(mask)]


def most_general(task):
    """Return the list of the most general bodies that fit."""
    check_plain(task)
    everything = everything_of(task)
    meets = meet_masks(everything, good_masks(task))
    return bodies_of(parts_among(transversal_masks(lack_masks(everything, greatest_bads(task))), meets))


def greatest_bads(task):
    """Return the list of the masks of the greatest among the sets of all bad examples."""
    return greatest_among(bad_masks(task)).masks


def parts_among(masks, others):
    """Return the list of the masks that are parts of other ones."""
    holders = greatest_among(others)
    return [mask for mask in masks if holders.holds(mask)]


def between(task, body):
    """Return the first most general body in a body that fits, and the first most special one around it, or None."""
    if not fits(task, body):
        return None
    inner = [general for general in most_general(task) if is_part(general, body)]
    outer = [special for special in most_special(task) if is_part(body, special)]
    return (inner[0], outer[0])


def is_part(body, other):
    """Return True if all numbers of the body are in the other one."""
    return all(number in other for number in body)
