"""Closures of bodies, and folds of rules into other rules."""

from fewrules.closure import background_steps
from fewrules.errors import InvalidTheory
from fewrules.rules import body_atoms, check_body, check_rule, head_of
from fewrules.steps import are_there, fillings_within, table_of, whole_steps


def closure_of(task, body):
    """Return the closure of a body under the background of the task."""
    check_body(task, body)
    have = closed_atoms(task, body)
    return tuple([number for number, atom in enumerate(task.atoms) if atom in have])


def fold_of(task, rule, other):
    """Return the least fold of the rule into the other one, or None if there is none."""
    check_pair(task, rule, other)
    found = folds_within(task, rule, closed_atoms(task, other[1]))
    return found[0] if found else None


def folds_within(task, rule, have):
    """Return the ascending list of the folds of a rule into the rules with this table of the atoms of a closure."""
    names = list(range(task.names))
    head = head_of(task, rule[0])[1]
    choices = [[name] for name in head] + [names] * (task.names - len(head))
    return fillings_within(choices, body_atoms(task, rule[1]), have)


def accepts_fold(task, rule, other, fold):
    """Return True if the tuple is a fold of the rule into the other one."""
    check_pair(task, rule, other)
    head = head_of(task, rule[0])[1]
    if len(fold) != task.names or fold[:len(head)] != head:
        return False
    if not all(0 <= name < task.names for name in fold):
        return False
    return are_there(body_atoms(task, rule[1]), fold, closed_atoms(task, other[1]))


def check_pair(task, rule, other):
    """Raise InvalidTheory if a rule is none of the task, or if the two are of different relations."""
    check_rule(task, rule)
    check_rule(task, other)
    if rule[0] != other[0]:
        raise InvalidTheory("relations")


def closed_atoms(task, body):
    """Return a table of the atoms of the closure of a body: its names are the constants of a world."""
    atoms = body_atoms(task, body)
    added = whole_steps(background_steps(task.background), list(range(task.names)), atoms)
    return table_of(atoms + [step[0] for step in added])
