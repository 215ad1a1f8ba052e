"""Books: a task of which the examples change, and what changes with them."""

from fewrules.clashes import all_examples, numbered_lots
from fewrules.edges import most_general, most_special
from fewrules.errors import NoTheory, UnknownExample
from fewrules.plain import check_plain
from fewrules.says import says, with_example, words_for
from fewrules.tasks import Task
from fewrules.theories import least_k


def status(task, k, example):
    """Return the status of an example: good, bad, sure, never, open or none."""
    check_plain(task)
    own = own_status(task)
    if example in own:
        return own[example]
    try:
        return says(task, k, example)
    except NoTheory:
        return "none"


def own_status(task):
    """Return a table of the status of the task's own examples."""
    own = {example: "good" for example in task.good}
    for example in task.bad:
        own[example] = "bad"
    return own


def drift(before, behind, k):
    """Return the list of what is different in the second one of two tasks that differ in their examples alone."""
    check_plain(before)
    check_plain(behind)
    rows = changed_rows("lot", numbered_lots(before), numbered_lots(behind))
    rows.extend(changed_rows("special", most_special(before), most_special(behind)))
    rows.extend(changed_rows("general", most_general(before), most_general(behind)))
    least = (least_k(before), least_k(behind))
    if least[0] != least[1]:
        rows.append(("least", *least))
    ahead = {**words_for(before, k), **own_status(before)}
    after = {**words_for(behind, k), **own_status(behind)}
    for example in all_examples(before):
        if ahead[example] != after[example]:
            rows.append(("status", example, ahead[example], after[example]))
    return rows


def changed_rows(word, before, behind):
    """Return the ascending list of the tuples (word, row, there) for the rows that are in one of two lists alone."""
    ahead = {row: True for row in before}
    after = {row: True for row in behind}
    changed = [(row, False) for row in before if row not in after] + [(row, True) for row in behind if row not in ahead]
    return [(word, row, there) for row, there in sorted(changed)]


class Book:
    """A task and a number of rules, and the deeds that led to the task, each with the task ahead of it."""

    def __init__(self, task, k):
        check_plain(task)
        self.task = task
        self.k = k
        self._past = []

    def add(self, example, truth):
        """Add the example, to the good ones (True) or to the bad ones (False)."""
        self._turn_to(with_example(self.task, example, truth), ("add", example, truth))

    def remove(self, example):
        """Remove the example."""
        truth = self._truth_of(example)
        self._turn_to(without(self.task, example), ("remove", example, truth))

    def turn(self, example):
        """Make a bad example of the good one, or the other way round."""
        truth = not self._truth_of(example)
        self._turn_to(with_example(without(self.task, example), example, truth), ("turn", example, truth))

    def undo(self):
        """Take back the last deed and return it, or None if there is none."""
        if not self._past:
            return None
        deed, self.task = self._past.pop()
        return deed

    def deeds(self):
        """Return the list of the deeds that were not taken back."""
        return [deed for deed, _ in self._past]

    def drift(self):
        """Return the drift of the last deed, or the empty list if there is none."""
        return drift(self._past[-1][1], self.task, self.k) if self._past else []

    def _truth_of(self, example):
        """Return True if the example is a good one, False if it is a bad one."""
        if example not in self.task.good and example not in self.task.bad:
            raise UnknownExample(example)
        return example in self.task.good

    def _turn_to(self, task, deed):
        """Go to a task by a deed."""
        self._past.append((deed, self.task))
        self.task = task


def without(task, example):
    """Return the task without an example."""
    good = [one for one in task.good if one != example]
    bad = [one for one in task.bad if one != example]
    return Task(task.signature, task.background, task.worlds, task.names, good=good, bad=bad)
