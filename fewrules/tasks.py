"""Signatures and tasks."""

from fewrules.closure import closing
from fewrules.errors import InvalidSignature, InvalidTask, TooLarge
from fewrules.steps import fillings_within
from fewrules.words import is_name
from fewrules.worlds import World, facts_in_order

MOST_WORLDS = 4
MOST_RULES = 20
MOST_EXAMPLES = 8
MOST_NAMES = 4
MOST_ATOMS = 64


class Signature:
    """Known and unknown relations, tuples (name, places)."""

    def __init__(self, known, unknown):
        reason = signature_fault(known, unknown)
        if reason is not None:
            raise InvalidSignature(reason)
        self.known = list(known)
        self.unknown = list(unknown)


class Task:
    """Worlds with background rules, and good and bad examples of unknown relations in them."""

    def __init__(self, signature, background, worlds, names, *, good, bad, calls=False):
        check_limits(background, worlds, good, bad)
        reason = task_fault(signature, background, worlds, names, [*good, *bad])
        if reason is not None:
            raise InvalidTask(reason)
        self.signature = signature
        self.background = [(head, list(atoms)) for head, atoms in background]
        self.worlds = [ordered_world(signature, world) for world in worlds]
        self.names = names
        self.good = list(good)
        self.bad = list(bad)
        self.calls = calls
        self.atoms = all_atoms(signature, names, calls)
        if len(self.atoms) > MOST_ATOMS:
            raise TooLarge("atoms")
        self.closed = [closing(signature, self.background, world) for world in self.worlds]


def signature_fault(known, unknown):
    """Return the first reason why these make no signature, or None."""
    if not 1 <= len(known) <= 6 or not 1 <= len(unknown) <= 3:
        return "count"
    relations = [*known, *unknown]
    names = [name for name, _ in relations]
    if not all(is_name(name) for name in names):
        return "name"
    if len(set(names)) < len(names):
        return "twice"
    if not all(1 <= relation[1] <= 3 for relation in relations):
        return "places"
    return None


def check_limits(background, worlds, good, bad):
    """Raise TooLarge for the first limit that the lists of a task exceed."""
    if len(worlds) > MOST_WORLDS:
        raise TooLarge("worlds")
    if len(background) > MOST_RULES:
        raise TooLarge("rules")
    if len(good) > MOST_EXAMPLES or len(bad) > MOST_EXAMPLES:
        raise TooLarge("examples")


def task_fault(signature, background, worlds, names, examples):
    """Return the first reason why these make no task, or None."""
    known = dict(signature.known)
    unknown = dict(signature.unknown)
    if not worlds:
        return "worlds"
    if not all(has_places(fact, known) for world in worlds for fact in world.facts):
        return "fact"
    if not all(is_background(rule, known) for rule in background):
        return "rule"
    if not max(unknown.values()) <= names <= MOST_NAMES:
        return "names"
    if not all(is_stated(unknown, worlds, example) for example in examples):
        return "example"
    if len(set(examples)) < len(examples):
        return "again"
    return None


def has_places(atom, places):
    """Return True if an atom or a fact is of one of the relations, and as long as the table of places tells."""
    return atom[0] in places and len(atom[1]) == places[atom[0]]


def is_background(rule, known):
    """Return True if the tuple is a background rule, for the table of the places of known relations."""
    head, atoms = rule
    if not all(has_places(atom, known) for atom in [head, *atoms]):
        return False
    named = {name: True for atom in atoms for name in atom[1]}
    return len(atoms) > 0 and all(0 <= name <= 3 for name in named) and all(name in named for name in head[1])


def is_stated(unknown, worlds, example):
    """Return True if the tuple is an example, for the table of the places of unknown relations."""
    number, name, row = example
    if not 0 <= number < len(worlds) or not has_places((name, row), unknown):
        return False
    constants = worlds[number].constants
    return all(constant in constants for constant in row)


def ordered_world(signature, world):
    """Return a new world with the facts of this one in order."""
    return World(world.constants, facts_in_order(signature, world.constants, world.facts))


def all_atoms(signature, names, calls):
    """Return the list of the atoms of a task."""
    relations = list(signature.known)
    if calls:
        relations.extend(signature.unknown)
    choice = list(range(names))
    return [(name, row) for name, places in relations for row in fillings_within([choice] * places, [], {})]


def atoms_of(task):
    """Return the list of the atoms of the task."""
    return list(task.atoms)


def is_plain(task):
    """Return True if the task has one unknown relation and is without calls."""
    return len(task.signature.unknown) == 1 and not task.calls


def is_body(task, body):
    """Return True if a tuple of integers is a body of the task."""
    if not all(0 <= number < len(task.atoms) for number in body):
        return False
    return all(first < second for first, second in zip(body, body[1:]))


def is_example(task, example):
    """Return True if the tuple is an example of the worlds and unknown relations of the task."""
    return is_stated(dict(task.signature.unknown), task.worlds, example)
