"""Fillings of examples, and the bodies that cover them."""

from fewrules.errors import InvalidBody, UnknownExample
from fewrules.parts import greatest_of
from fewrules.steps import fact_of, fillings_within, table_of
from fewrules.tasks import is_body, is_example


def fillings(task, example):
    """Return the list of the fillings of an example in order."""
    check_example(task, example)
    return fillings_with(task, example, [])


def set_of(task, world, filling):
    """Return the set of a filling in the world with this number."""
    return body_of(task, table_of(task.closed[world]), filling)


def sets_of(task, example):
    """Return the list of the tuples (greatest set, first filling that has it) of an example."""
    check_example(task, example)
    have = table_of(task.closed[example[0]])
    first = {}
    for filling in fillings_with(task, example, []):
        first.setdefault(body_of(task, have, filling), filling)
    return [(body, first[body]) for body in greatest_of(list(first))]


def covers(task, body, example):
    """Return the first filling of the example of whose set the body is a part, or None."""
    check_example(task, example)
    if not is_body(task, body):
        raise InvalidBody("body")
    found = fillings_with(task, example, [task.atoms[number] for number in body])
    return found[0] if found else None


def check_example(task, example):
    """Raise UnknownExample if the tuple is no example."""
    if not is_example(task, example):
        raise UnknownExample(example)


def fillings_with(task, example, atoms):
    """Return, in order, the fillings of an example that make closed facts of all atoms."""
    number, _, row = example
    others = [task.worlds[number].constants] * (task.names - len(row))
    return fillings_within([[constant] for constant in row] + others, atoms, table_of(task.closed[number]))


def body_of(task, have, filling):
    """Return the body of the atoms of which a filling makes facts that are there."""
    return tuple([number for number, atom in enumerate(task.atoms) if fact_of(atom, filling) in have])
