"""Rules that are at least as general as others, alike ones, partings and cores."""

from fewrules.closure import missing_fact
from fewrules.folds import check_pair, closed_atoms, fold_of, folds_within
from fewrules.lines import NAMES
from fewrules.rules import body_atoms, check_rule, check_theory, head_of
from fewrules.steps import fillings_within, table_of
from fewrules.tasks import is_stated
from fewrules.worlds import World


def is_general(task, rule, other):
    """Return True if the rule is at least as general as the other one."""
    return fold_of(task, rule, other) is not None


def are_alike(task, rule, other):
    """Return True if each of the two rules is at least as general as the other one."""
    return is_general(task, rule, other) and is_general(task, other, rule)


def parting(task, rule, other):
    """Return a parting of the two rules, or None if there is none."""
    check_pair(task, rule, other)
    if is_general(task, other, rule):
        return None
    # The body of the rule itself, with the names as constants, is a world in which the other one gives nothing.
    facts = [(name, lettered(row)) for name, row in closed_atoms(task, rule[1])]
    known = dict(task.signature.known)
    world = World(NAMES[:task.names], [fact for fact in facts if fact[0] in known])
    return (world, [fact for fact in facts if fact[0] not in known], lettered(head_of(task, rule[0])[1]))


def lettered(row):
    """Return the tuple of the letters of names."""
    return tuple([NAMES[number] for number in row])


def accepts_parting(task, rule, other, told):
    """Return True if the triple is a parting of the two rules."""
    check_pair(task, rule, other)
    world, facts, constants = told
    if len(set(facts)) < len(facts):
        return False
    unknown = dict(task.signature.unknown)
    if not all(is_stated(unknown, [world], (0, *fact)) for fact in [*facts, (rule[0], constants)]):
        return False
    if missing_fact(task.background, world) is not None:
        return False
    return gives_fact(task, rule, told) and not gives_fact(task, other, told)


def gives_fact(task, rule, told):
    """Return True if the rule gives the fact of its relation with the constants of a triple from its facts."""
    world, facts, constants = told
    choices = [[constant] for constant in constants] + [world.constants] * (task.names - len(constants))
    return len(fillings_within(choices, body_atoms(task, rule[1]), table_of(world.facts + facts))) > 0


def core_of(task, rule):
    """Return what is left of a rule if atoms are left out, from the least on, as long as it stays alike."""
    check_rule(task, rule)
    name, body = rule
    for number in rule[1]:
        less = tuple([other for other in body if other != number])
        # With fewer atoms it is at least as general; so one fold is all that is asked for.
        if is_general(task, (name, body), (name, less)):
            body = less
    return (name, body)


def groups(task, rules):
    """Return the list of the lists of rules that are alike, in the order of the list."""
    check_theory(task, rules)
    found = []
    firsts = []
    for rule in rules:
        have = closed_atoms(task, rule[1])
        place = place_of(task, firsts, rule, have)
        if place is None:
            firsts.append((rule, have))
            found.append([rule])
        else:
            found[place].append(rule)
    return found


def place_of(task, firsts, rule, have):
    """Return the place of the first alike one among rules with their closures, or None."""
    for place, (first, closed) in enumerate(firsts):
        if first[0] == rule[0] and folds_within(task, first, have) and folds_within(task, rule, closed):
            return place
    return None
