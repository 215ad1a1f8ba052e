"""Fillings that make facts of atoms, and facts that follow step by step.

A step rule is a tuple (head, atoms, length): an atom, a list of atoms, and the length of its fillings.
A step is a tuple (fact, number, filling): the step rule with this number gives the fact by the filling.
Facts are looked up in a dict that has them as its keys.
"""

from fewrules.errors import TooLarge


def fact_of(atom, filling):
    """Return the fact that a filling makes of an atom."""
    name, names = atom
    return (name, tuple([filling[place] for place in names]))


def are_there(atoms, filling, have):
    """Return True if a filling makes facts that are there of all atoms."""
    return all(fact_of(atom, filling) in have for atom in atoms)


def table_of(facts):
    """Return a dict with the facts as its keys."""
    return {fact: True for fact in facts}


def fillings_within(choices, atoms, have):
    """Return, in order, the tuples with one of the choices at each place by which all atoms are there."""
    rows = [()]
    for place, choice in enumerate(choices):
        ripe = [atom for atom in atoms if max(atom[1]) == place]
        longer = [(*row, member) for row in rows for member in choice]
        rows = [filling for filling in longer if are_there(ripe, filling, have)]
    return rows


def step_fillings(rule, constants, have):
    """Return, in order, fillings by which a step rule gives all the facts that it gives.

    A place that no atom names has the first constant alone: the others there give nothing else, and come later.
    """
    head, atoms, length = rule
    named = {place: True for atom in [head, *atoms] for place in atom[1]}
    choices = [constants if place in named else constants[:1] for place in range(length)]
    return fillings_within(choices, atoms, have)


def fresh_step(rules, constants, have):
    """Return the first step to a fact that is not there, or None if the facts are closed."""
    for number, rule in enumerate(rules):
        for filling in step_fillings(rule, constants, have):
            fact = fact_of(rule[0], filling)
            if fact not in have:
                return (fact, number, filling)
    return None


def whole_steps(rules, constants, facts, limit=None):
    """Return steps from the facts to all that follow; TooLarge if there are more facts than the limit, in all."""
    have = table_of(facts)
    steps = []
    waiting = list(range(len(rules)))
    while waiting:
        before = len(steps)
        for number in waiting:
            steps.extend(take_steps(rules, number, constants, have))
            if limit is not None and len(have) > limit:
                raise TooLarge("facts")
        grown = {step[0][0]: True for step in steps[before:]}
        waiting = [number for number, rule in enumerate(rules) if asks_for(rule, grown)]
    return steps


def take_steps(rules, number, constants, have):
    """Add to the facts all that one step rule gives from them, and return the steps."""
    rule = rules[number]
    steps = []
    for filling in step_fillings(rule, constants, have):
        fact = fact_of(rule[0], filling)
        if fact not in have:
            have[fact] = True
            steps.append((fact, number, filling))
    return steps


def asks_for(rule, names):
    """Return True if an atom of the body of a step rule has one of the names of relations."""
    return any(atom[0] in names for atom in rule[1])


def are_steps(rules, constants, facts, told):
    """Return True if the tuples are steps, each from the facts and those of earlier ones to one that is none."""
    have = table_of(facts)
    for fact, number, filling in told:
        if fact in have or not 0 <= number < len(rules):
            return False
        if not gives(rules[number], constants, have, filling, fact):
            return False
        have[fact] = True
    return True


def gives(rule, constants, have, filling, fact):
    """Return True if a step rule gives the fact by the filling, which may be of any length and strings."""
    head, atoms, length = rule
    if len(filling) != length or not all(constant in constants for constant in filling):
        return False
    return fact_of(head, filling) == fact and are_there(atoms, filling, have)
