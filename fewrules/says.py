"""What every fitting theory of few rules says of an example, what none says, and what is open."""

from fewrules.errors import NoTheory
from fewrules.fields import field_of, field_with
from fewrules.fillings import check_example
from fewrules.parts import greatest_among
from fewrules.plain import check_plain, set_masks
from fewrules.steps import fillings_within
from fewrules.tasks import Task
from fewrules.theories import easy_lots, theory


def with_example(task, example, truth):
    """Return the task with the example as a further good one (True) or bad one (False)."""
    check_plain(task)
    check_example(task, example)
    good = [*task.good, example] if truth else task.good
    bad = task.bad if truth else [*task.bad, example]
    return Task(task.signature, task.background, task.worlds, task.names, good=good, bad=bad)


def tasks_with(task, example):
    """Return the tasks with a further good and with a further bad example; None if it is one of the task's own."""
    check_plain(task)
    if example in task.good or example in task.bad:
        return None
    return (with_example(task, example, True), with_example(task, example, False))


def witnesses(task, k, example):
    """Return a theory from which the example follows and one from which it does not, or None in their place."""
    further = tasks_with(task, example)
    bodies_that_fit(field_of(task), k)
    if further is not None:
        return (theory(further[0], k), theory(further[1], k))
    if example in task.good:
        return (theory(task, k), None)
    return (None, theory(task, k))


def says(task, k, example):
    """Return whether the example is sure, never or open."""
    further = tasks_with(task, example)
    field = field_of(task)
    bodies = bodies_that_fit(field, k)
    if further is not None:
        return word_for(field, k, holders_for(task, example), [bodies])
    return "sure" if example in task.good else "never"


def holders_for(task, example):
    """Return holders of the greatest sets of an example."""
    return greatest_among(set_masks(task, example))


def bodies_that_fit(field, k):
    """Return the bodies, as masks, of a theory of at most k rules that fits."""
    bodies = bodies_for(field, k)
    if bodies is None:
        raise NoTheory()
    return bodies


def bodies_for(field, k):
    """Return the bodies, as masks, of a theory of at most k rules that fits, or None if there is none."""
    lots = easy_lots(field, k)
    if lots is None:
        return None
    return [field.body_for(lot) for lot in lots]


def word_for(field, k, sets, theories):
    """Return the word for an example with these sets; theories that fit are known, and those found are put to them."""
    for truth in (True, False):
        if not any(follows(sets, known) == truth for known in theories):
            bodies = bodies_for(field_with(field, sets, truth), k)
            if bodies is None:
                return "never" if truth else "sure"
            theories.append(bodies)
    return "open"


def follows(sets, bodies):
    """Return True if one of the bodies covers the example with these sets."""
    return any(sets.holds(body) for body in bodies)


def candidates(task):
    """Return the list of all examples that are not among those of the task."""
    check_plain(task)
    name, places = task.signature.unknown[0]
    own = {example: True for example in [*task.good, *task.bad]}
    found = []
    for number, world in enumerate(task.worlds):
        rows = fillings_within([world.constants] * places, [], {})
        found.extend([(number, name, row) for row in rows if (number, name, row) not in own])
    return found


def words_for(task, k):
    """Return a table of what is said of each candidate, "none" if no theory of at most k rules fits."""
    found = candidates(task)
    if found:
        # Whether there may be a further example is the same for all candidates.
        tasks_with(task, found[0])
    field = field_of(task)
    bodies = bodies_for(field, k)
    if bodies is None:
        return {example: "none" for example in found}
    theories = [bodies]
    return {example: word_for(field, k, holders_for(task, example), theories) for example in found}


def open_examples(task, k):
    """Return the list of the candidates that are open."""
    return open_among(task, k, {}, None)


def open_among(task, k, settled, most):
    """Return the first open candidates, so many or all (None), and put those ahead that are not to the settled ones."""
    found = candidates(task)
    field = field_of(task)
    theories = [bodies_that_fit(field, k)]
    if found:
        # Whether there may be a further example is the same for all candidates.
        tasks_with(task, found[0])
    opened = []
    for example in found:
        if example in settled:
            continue
        if word_for(field, k, holders_for(task, example), theories) == "open":
            opened.append(example)
            if len(opened) == most:
                break
        else:
            settled[example] = True
    return opened
