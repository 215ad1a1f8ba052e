"""Rules of a task, as step rules too."""

from fewrules.errors import InvalidTheory
from fewrules.tasks import is_body


def head_of(task, name):
    """Return the head of an unknown relation."""
    places = dict(task.signature.unknown)
    return (name, tuple(range(places[name])))


def body_atoms(task, body):
    """Return the list of the atoms of a body."""
    return [task.atoms[number] for number in body]


def rule_steps(task, theory):
    """Return the list of the step rules of the rules of a theory."""
    return [(head_of(task, name), body_atoms(task, body), task.names) for name, body in theory]


def check_rule(task, rule):
    """Raise InvalidTheory if the rule is none of the task."""
    name, body = rule
    if name not in dict(task.signature.unknown):
        raise InvalidTheory("unknown")
    check_body(task, body)


def check_body(task, body):
    """Raise InvalidTheory if the tuple is no body of the task."""
    if not is_body(task, body):
        raise InvalidTheory("body")


def check_theory(task, theory):
    """Raise InvalidTheory for the first rule that is none of the task."""
    for rule in theory:
        check_rule(task, rule)
