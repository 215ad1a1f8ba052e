"""What background rules add to a world."""

from fewrules.steps import are_steps, fresh_step, table_of, whole_steps
from fewrules.worlds import MOST_FACTS, facts_in_order


def closing(signature, rules, world):
    """Return the closing of a world, a list of facts in order."""
    added = [step[0] for step in derivation(rules, world)]
    return facts_in_order(signature, world.constants, world.facts + added)


def derivation(rules, world):
    """Return a whole derivation for a world."""
    return whole_steps(background_steps(rules), world.constants, world.facts, MOST_FACTS)


def accepts_derivation(rules, world, told):
    """Return True if the list is a derivation for the world."""
    return are_steps(background_steps(rules), world.constants, world.facts, told)


def is_whole(rules, world, told):
    """Return True if the list is a whole derivation for the world."""
    if not accepts_derivation(rules, world, told):
        return False
    have = table_of(world.facts + [step[0] for step in told])
    return fresh_step(background_steps(rules), world.constants, have) is None


def missing_fact(rules, world):
    """Return the first tuple (fact, number, filling) that gives a further fact, or None if there is none."""
    return fresh_step(background_steps(rules), world.constants, table_of(world.facts))


def background_steps(rules):
    """Return the list of the step rules of background rules."""
    return [(head, atoms, greatest_name(atoms) + 1) for head, atoms in rules]


def greatest_name(atoms):
    """Return the greatest name in a list of atoms."""
    return max([max(atom[1]) for atom in atoms])
