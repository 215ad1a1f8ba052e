"""Programs with tables, the facts that they give, and papers that show whether a program fits."""

from fewrules.errors import NoTheory
from fewrules.fillings import check_example
from fewrules.makers import program_against
from fewrules.marbles import first_kept, is_keeping, joins, keeping_list, keeps_onto
from fewrules.runs import Run, check_program


def facts_of(task, program, world):
    """Return the list of the facts of unknown relations among the facts of the program in a world."""
    check_program(task, program)
    run = Run(task, program, world)
    return [(name, row) for name, _ in task.signature.unknown for row in run.rows(name)]


def rows_of(task, program, world, table):
    """Return the list of the tuples of constants of the facts of a table in a world, in order."""
    check_program(task, program)
    return Run(task, program, world).rows(table)


def program_fits(task, program):
    """Return True if the program says all good examples and no bad one."""
    check_program(task, program)
    said = {}
    for number in sorted({example[0]: True for example in [*task.good, *task.bad]}):
        for name, row in facts_of(task, program, number):
            said[(number, name, row)] = True
    return all(example in said for example in task.good) and not any(example in said for example in task.bad)


def made_program(task):
    """Return a program that fits and says all examples that are kept onto no bad one, or None if none fits."""
    if first_kept(task) is not None:
        return None
    return program_against(task)


def paper(task):
    """Return an accepted paper for the task."""
    found = first_kept(task)
    if found is None:
        return ("program", program_against(task))
    good, bad = found
    return ("kept", good, bad, keeping_list(task, good[0], bad[0]))


def accepts_paper(task, told):
    """Return True if the paper is accepted."""
    if told[0] == "program":
        return program_fits(task, told[1])
    _, good, bad, pairs = told
    if good not in task.good or bad not in task.bad or good[1] != bad[1]:
        return False
    return is_keeping(task, good[0], bad[0], pairs) and joins(task, good, bad, pairs)


def helper_says(task, example):
    """Return whether the example is sure, never or open for programs."""
    check_example(task, example)
    if first_kept(task) is not None:
        raise NoTheory()
    kept = {}
    if any(keeps_onto(task, kept, good, example) for good in task.good):
        return "sure"
    if any(keeps_onto(task, kept, example, bad) for bad in task.bad):
        return "never"
    return "open"
