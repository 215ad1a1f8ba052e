"""What is asked of plain tasks only, and the sets of their examples as masks."""

from fewrules.errors import InvalidTask
from fewrules.fillings import sets_of
from fewrules.parts import mask_of
from fewrules.tasks import is_plain


def check_plain(task):
    """Raise InvalidTask if the task is not plain."""
    if not is_plain(task):
        raise InvalidTask("plain")


def everything_of(task):
    """Return the mask of all atoms of the task."""
    return (1 << len(task.atoms)) - 1


def set_masks(task, example):
    """Return the list of the masks of the greatest sets of an example."""
    return [mask_of(row[0]) for row in sets_of(task, example)]


def good_masks(task):
    """Return for each good example the list of the masks of its greatest sets."""
    return [set_masks(task, example) for example in task.good]


def bad_masks(task):
    """Return the list of the masks of the greatest sets of all bad examples."""
    return [mask for example in task.bad for mask in set_masks(task, example)]
