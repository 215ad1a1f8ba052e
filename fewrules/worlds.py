"""Worlds, and the order of their facts."""

from fewrules.errors import InvalidWorld, TooLarge
from fewrules.words import is_name

MOST_FACTS = 200


class World:
    """Constants, and facts about them as they were given."""

    def __init__(self, constants, facts):
        if len(facts) > MOST_FACTS:
            raise TooLarge("facts")
        reason = world_fault(constants, facts)
        if reason is not None:
            raise InvalidWorld(reason)
        self.constants = list(constants)
        self.facts = list(facts)


def world_fault(constants, facts):
    """Return the first reason why these make no world, or None."""
    if not 1 <= len(constants) <= 6:
        return "constants"
    if not all(is_name(constant) for constant in constants):
        return "name"
    if len(set(constants)) < len(constants):
        return "twice"
    if not all(is_about(fact, constants) for fact in facts):
        return "fact"
    if len(set(facts)) < len(facts):
        return "again"
    return None


def is_about(fact, constants):
    """Return True if the fact has constants, and only such ones."""
    row = fact[1]
    return len(row) > 0 and all(constant in constants for constant in row)


def facts_in_order(signature, constants, facts):
    """Return the list of the facts by their relations in the signature, then by their constants."""
    relations = signature.known + signature.unknown
    rank = {relation[0]: at for at, relation in enumerate(relations)}
    place = {constant: at for at, constant in enumerate(constants)}
    keyed = [(rank[fact[0]], places_in(place, fact[1]), fact) for fact in facts]
    return [row[2] for row in sorted(keyed)]


def places_in(place, row):
    """Return the list of the places that a table tells for the members of a row."""
    return [place[member] for member in row]
