"""Theories that may call themselves: their least sets, and stages that lead there."""

from fewrules.rules import check_theory, rule_steps
from fewrules.steps import are_steps, fresh_step, table_of, whole_steps
from fewrules.tasks import is_example
from fewrules.worlds import facts_in_order


def least_set(task, theory, world):
    """Return the least set of a theory in the world with this number, a list of facts in order."""
    facts = [step[0] for step in stages_of(task, theory, world)]
    return facts_in_order(task.signature, task.worlds[world].constants, facts)


def stages_of(task, theory, world):
    """Return whole stages of a theory in the world with this number."""
    check_theory(task, theory)
    return whole_steps(rule_steps(task, theory), task.worlds[world].constants, task.closed[world])


def accepts_stages(task, theory, world, stages):
    """Return True if the list has stages of the theory in the world with this number."""
    check_theory(task, theory)
    constants = task.worlds[world].constants
    return are_steps(rule_steps(task, theory), constants, task.closed[world], stages)


def is_closed(task, theory, world, facts):
    """Return True if the list has different facts of unknown relations in the world that are closed."""
    check_theory(task, theory)
    if len(set(facts)) < len(facts) or not all(is_example(task, (world, *fact)) for fact in facts):
        return False
    have = table_of(task.closed[world] + facts)
    return fresh_step(rule_steps(task, theory), task.worlds[world].constants, have) is None


def theory_fits(task, theory):
    """Return True if the theory fits: all good examples are in its least sets, and no bad one is."""
    have = {}
    for number in range(len(task.worlds)):
        for name, row in least_set(task, theory, number):
            have[(number, name, row)] = True
    return all(example in have for example in task.good) and not any(example in have for example in task.bad)
