"""Collections of examples that clash, and those that have to go; diagnoses that show that these are all."""

from itertools import combinations

from fewrules.errors import TooLarge
from fewrules.lots import hard_lots
from fewrules.parts import mask_of
from fewrules.plain import check_plain
from fewrules.portions import Portions, Trials
from fewrules.steps import fillings_within
from fewrules.tasks import Task, is_body
from fewrules.theories import judge_theory
from fewrules.transversals import least_transversals

MOST_TOGETHER = 8


def all_examples(task):
    """Return the list of all examples of the unknown relation, by their numbers."""
    check_plain(task)
    name, places = task.signature.unknown[0]
    found = []
    for number, world in enumerate(task.worlds):
        found.extend([(number, name, row) for row in fillings_within([world.constants] * places, [], {})])
    return found


def numbering(task):
    """Return a table of the numbers of all examples."""
    return {example: number for number, example in enumerate(all_examples(task))}


def numbers_of(task):
    """Return the ascending tuple of the numbers of the examples of the task."""
    numbers = numbering(task)
    return tuple(sorted([numbers[example] for example in [*task.good, *task.bad]]))


def part_task(task, numbers):
    """Return the part of the task for the examples with these numbers."""
    good, bad = chosen_examples(task, numbers)
    return Task(task.signature, task.background, task.worlds, task.names, good=good, bad=bad)


def chosen_examples(task, numbers):
    """Return the lists of the good and of the bad examples of the task that have one of these numbers."""
    own = numbering(task)
    chosen = {number: True for number in numbers}
    good = [example for example in task.good if own[example] in chosen]
    return good, [example for example in task.bad if own[example] in chosen]


def numbered_lots(task):
    """Return the ascending list of the least hard lots, as tuples of the numbers of their examples."""
    numbers = numbering(task)
    return sorted([tuple(sorted([numbers[task.good[at]] for at in lot])) for lot in hard_lots(task)])


def clashes(task, k):
    """Return the list of the clashes."""
    check_few(task)
    return clashes_of(task, Trials(Portions(task), k))


def check_few(task):
    """Raise InvalidTask if the task is not plain, and TooLarge if it has too many examples."""
    check_plain(task)
    if len(task.good) + len(task.bad) > MOST_TOGETHER:
        raise TooLarge("examples")


def clashes_of(task, trials):
    """Return the list of the clashes; trials tell which parts a theory fits."""
    own = numbering(task)
    places = {own[example]: at for at, example in enumerate([*task.good, *task.bad])}
    numbers = sorted(places)
    found = []
    if trials.fits((1 << len(task.good)) - 1, (1 << len(task.bad)) - 1):
        return []
    for size in range(1, len(numbers) + 1):
        for row in combinations(numbers, size):
            mask = mask_of([places[number] for number in row])
            if not any((mask & other) == other for other, _ in found):
                goods = mask & ((1 << len(task.good)) - 1)
                if not trials.fits(goods, mask >> len(task.good)):
                    found.append((mask, row))
    return sorted([row for _, row in found])


def mends(task, k):
    """Return the list of the mends."""
    return least_transversals(clashes(task, k))


def diagnosis(task, k):
    """Return the diagnosis that is told."""
    check_few(task)
    portions = Portions(task)
    found = clashes_of(task, Trials(portions, k))
    refused = []
    for numbers in found:
        good, bad = chosen_examples(task, numbers)
        refused.append((numbers, portions.refusal(good, bad, k)))
    mended = []
    for numbers in least_transversals(found):
        good, bad = chosen_examples(task, others_than(task, numbers))
        mended.append((numbers, portions.theory(good, bad, k)))
    return (refused, mended)


def others_than(task, numbers):
    """Return the numbers of the examples of the task that are not among these."""
    return tuple([number for number in numbers_of(task) if number not in numbers])


def judge_diagnosis(task, k, told):
    """Return True if the diagnosis is accepted."""
    check_few(task)
    refused, mended = told
    own = numbers_of(task)
    if not all(is_collection(own, numbers) for numbers, _ in refused + mended):
        return False
    rows = [numbers for numbers, _ in refused]
    if not is_bare(rows) or [numbers for numbers, _ in mended] != least_transversals(rows):
        return False
    portions = Portions(task)
    for numbers, refusal in refused:
        good, bad = chosen_examples(task, numbers)
        if not portions.accepts_refusal(good, bad, k, refusal):
            return False
    return all(mends_by(task, k, numbers, rules) for numbers, rules in mended)


def is_collection(own, numbers):
    """Return True if the tuple has different numbers of the task's own examples, ascending."""
    return all(number in own for number in numbers) and all(one < two for one, two in zip(numbers, numbers[1:]))


def is_bare(rows):
    """Return True if the tuples are ascending, and none is a part of another one."""
    if not all(one < two for one, two in zip(rows, rows[1:])):
        return False
    masks = [mask_of(row) for row in rows]
    return not any([(one & two) in (one, two) for one, two in combinations(masks, 2)])


def mends_by(task, k, numbers, rules):
    """Return True if the rules are a theory of at most k rules that fits the part for the other examples."""
    name = task.signature.unknown[0][0]
    if len(rules) > k or not all(one == name and is_body(task, body) for one, body in rules):
        return False
    return judge_theory(part_task(task, others_than(task, numbers)), rules)
