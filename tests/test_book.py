"""Points 72 to 75, and the interface of fewrules/book.py."""

import random

from fewrules.book import Book, drift, status
from fewrules.clashes import all_examples, clashes, diagnosis, judge_diagnosis, mends
from fewrules.edges import most_general, most_special
from fewrules.errors import InvalidTask, NoTheory, UnknownExample
from fewrules.says import candidates, says
from fewrules.texts import read_task
from fewrules.theories import least_k, theory
from tests.plain_support import (
    HALVES, NOT_PLAIN, example, large_task, naive_fitting, naive_hard_lots, naive_theories_fit, some_task, task_of,
    unary_task,
)
from tests.support import Case
from tests.test_clashes import REDS, small_task
from tests.test_says import UNKNOWN, as_told, full_task, with_lists


def one(name):
    return (0, "good", (name,))


def naive_status(task, k, asked):
    if asked in task.good or asked in task.bad:
        return "good" if asked in task.good else "bad"
    if not naive_theories_fit(task, k):
        return "none"
    if not naive_theories_fit(task, k, [asked], False):
        return "sure"
    return "open" if naive_theories_fit(task, k, [asked], True) else "never"


def naive_least(task):
    fine = [k for k in range(len(task.good) + 1) if naive_theories_fit(task, k)]
    return fine[0] if fine else None


def naive_drift(before, behind, k):
    """The drift by the words of point 73, by plain enumeration."""
    examples = all_examples(before)
    sides = []
    for task in (before, behind):
        fitting = [set(body) for body in naive_fitting(task)]
        sides.append({
            "lot": {tuple(sorted(examples.index(task.good[at]) for at in lot)) for lot in naive_hard_lots(task)},
            "special": {tuple(sorted(body)) for body in fitting if not any(body < other for other in fitting)},
            "general": {tuple(sorted(body)) for body in fitting if not any(other < body for other in fitting)},
        })
    rows = []
    for word in ("lot", "special", "general"):
        ahead, after = sides[0][word], sides[1][word]
        rows += [(word, row, row in after) for row in sorted(ahead ^ after)]
    least = naive_least(before), naive_least(behind)
    rows += [("least", *least)] if least[0] != least[1] else []
    for asked in examples:
        words = naive_status(before, k, asked), naive_status(behind, k, asked)
        rows += [("status", asked, *words)] if words[0] != words[1] else []
    return rows


class WorkedTest(Case):
    def test_the_worked_example(self):
        book = Book(read_task(REDS), 1)
        self.assertIsNone(book.add(one("bob"), False))
        self.assertEqual((clashes(book.task, 1), mends(book.task, 1)), ([(0, 1)], [(0,), (1,)]))
        self.assertIs(judge_diagnosis(book.task, 1, diagnosis(book.task, 1)), True)
        self.assertEqual(book.drift(), [
            ("lot", (0,), True), ("special", (0,), False), ("general", (), False), ("least", 1, None),
            ("status", one("bob"), "sure", "bad"), ("status", one("cid"), "open", "none")])
        self.assertEqual((book.undo(), status(book.task, 1, one("bob"))), (("add", one("bob"), False), "sure"))


class StatusTest(Case):
    def test_each_word(self):
        task = task_of(HALVES, ["ann"], ["dan"])
        self.assertEqual([status(task, 1, example(row)) for row in ["ann", "bob", "cid", "dan"]],
                         ["good", "open", "open", "bad"])
        task = task_of(HALVES, ["bob"], ["cid"])
        self.assertEqual([status(task, 1, example(row)) for row in ["ann", "bob", "cid", "dan"]],
                         ["sure", "good", "bad", "never"])
        self.assertEqual([status(task, 0, example(row)) for row in ["ann", "bob", "cid", "dan"]],
                         ["none", "good", "bad", "none"])
        task = task_of(HALVES, ["dan"], ["ann"])
        for k in (0, 1, 5):
            self.assertEqual([status(task, k, example(row)) for row in ["ann", "bob", "dan"]], ["bad", "none", "good"])

    def test_against_the_words(self):
        source = random.Random(310)
        counts = {}
        for at in range(40):
            task = small_task(source, at)
            k = source.randint(0, 2)
            for asked in source.sample(all_examples(task), min(6, len(all_examples(task)))):
                word = status(task, k, asked)
                self.assertEqual(word, naive_status(task, k, asked))
                counts[word] = counts.get(word, 0) + 1
        self.assertEqual(sorted(counts), ["bad", "good", "never", "none", "open", "sure"])

    def test_errors(self):
        task = task_of(HALVES, ["dan"], ["ann"])
        for asked in UNKNOWN:
            self.raises(UnknownExample, {"example": asked}, status, task, 1, asked)
        task = full_task(8, 3)
        for k in (0, 1):
            self.large("examples", status, task, k, candidates(task)[0])
            self.assertEqual((status(task, k, task.good[0]), status(task, k, task.bad[0])), ("good", "bad"))
        for task in NOT_PLAIN:
            for asked in [(0, "goal", ("ann",)), (7, "", ())]:
                self.invalid(InvalidTask, "plain", status, task, 1, asked)


class DriftTest(Case):
    def test_against_the_words(self):
        source = random.Random(311)
        words = {}
        for at in range(70):
            task = small_task(source, at)
            pool = candidates(task)
            source.shuffle(pool)
            other = with_lists(task, task.good + pool[:1], task.bad) if at % 4 else with_lists(
                task, task.good[1:], task.bad + pool[:1])
            k = source.randint(0, 2)
            for before, behind in [(task, other), (other, task)]:
                found = drift(before, behind, k)
                self.assertEqual(found, naive_drift(before, behind, k))
                for row in found:
                    key = (row[0], row[-1] if row[0] in ("lot", "special", "general") else None)
                    words[key] = words.get(key, 0) + 1
            self.assertEqual(drift(task, task, k), [])
        for word in ("lot", "special", "general"):
            for there in (True, False):
                self.assertGreater(words[word, there], 5)
        self.assertGreater(words["least", None], 10)

    def test_least_with_none(self):
        before, behind = task_of(HALVES, ["bob"], ["dan"]), task_of(HALVES, ["bob"], ["dan", "ann"])
        self.assertIn(("least", 1, None), drift(before, behind, 1))
        self.assertIn(("least", None, 1), drift(behind, before, 1))

    def test_facts_of_the_document(self):
        source = random.Random(312)
        for at in range(40):
            task = small_task(source, at)
            if not candidates(task):
                continue
            new = source.choice(candidates(task))
            k = source.randint(0, 2)
            self.good_comes(task, with_lists(task, [*task.good, new], task.bad), new, k)
            self.bad_comes(task, with_lists(task, task.good, [*task.bad, new]), k)

    def good_comes(self, task, more, new, k):
        number = all_examples(task).index(new)
        for row in drift(task, more, k):
            if row[0] == "lot":
                self.assertTrue(row[2] and number in row[1])
            if row[0] == "general":
                self.assertIs(row[2], False)
        for body in most_special(more):
            self.assertTrue(any(set(body) <= set(other) for other in most_special(task)))
        before, behind = least_k(task), least_k(more)
        if before is not None and behind is not None:
            self.assertIn(behind - before, (0, 1))
        self.settled_stay(task, more, k)

    def bad_comes(self, task, more, k):
        rows = drift(task, more, k)
        for row in rows:
            if row[0] == "special":
                self.assertIs(row[2], False)
        for body in most_general(more):
            self.assertTrue(any(set(other) <= set(body) for other in most_general(task)))
        before, behind = least_k(task), least_k(more)
        self.assertTrue(behind is None or before is not None and before <= behind)
        self.settled_stay(task, more, k)

    def settled_stay(self, task, more, k):
        if theory(more, k) is not None:
            for asked in candidates(more):
                if status(task, k, asked) in ("sure", "never"):
                    self.assertEqual(status(more, k, asked), status(task, k, asked))

    def test_errors(self):
        for task in NOT_PLAIN:
            self.invalid(InvalidTask, "plain", drift, task, task, 1)
            self.invalid(InvalidTask, "plain", drift, task_of(HALVES), task, 1)
            self.invalid(InvalidTask, "plain", drift, task, task_of(HALVES), 1)
        full = full_task(8, 3)
        self.large("examples", drift, full, with_lists(full, full.good[1:], full.bad), 1)
        self.large("examples", drift, with_lists(full, full.good[1:], full.bad), full, 1)
        large = large_task(4, 4)
        self.large("sets", drift, large, with_lists(large, large.good[1:], large.bad), 1)
        large = large_task(8, 4)
        self.large("sets", drift, large, large, 1)

    def test_at_the_limits(self):
        task = large_task(4, 4, 3)
        other = with_lists(task, task.good[1:], task.bad)
        rows = drift(task, other, 2)
        self.assertEqual([row for row in rows if row[0] == "status"], [
            ("status", asked, status(task, 2, asked), status(other, 2, asked)) for asked in all_examples(task)[::1]
            if asked in [row[1] for row in rows if row[0] == "status"]])
        self.assertGreater(len(rows), 3)


class BookTest(Case):
    def test_deeds(self):
        task = task_of(HALVES, ["ann"], ["dan"])
        book = Book(task, 1)
        self.assertEqual((book.k, book.deeds(), book.drift(), book.undo()), (1, [], [], None))
        self.assertEqual([book.add(example("bob"), True), book.turn(example("dan")), book.turn(example("ann")),
                          book.remove(example("bob")), book.add(example("cid"), False)], [None] * 5)
        self.assertEqual((book.task.good, book.task.bad), ([example("dan")], [example("ann"), example("cid")]))
        self.assertEqual(book.deeds(), [
            ("add", example("bob"), True), ("turn", example("dan"), True), ("turn", example("ann"), False),
            ("remove", example("bob"), True), ("add", example("cid"), False)])
        self.assertEqual((task.good, task.bad), ([example("ann")], [example("dan")]))

    def test_undo(self):
        book = Book(task_of(HALVES, ["ann"], ["dan"]), 1)
        states, drifts = [], []
        for call, rest in [(book.add, (example("bob"), True)), (book.remove, (example("dan"),)),
                           (book.turn, (example("bob"),)), (book.remove, (example("bob"),))]:
            states.append(as_told(book.task))
            call(*rest)
            drifts.append(book.drift())
        deeds = book.deeds()
        self.assertEqual(deeds[-1], ("remove", example("bob"), False))
        while deeds:
            self.assertEqual((book.deeds(), book.drift()), (deeds, drifts.pop()))
            self.assertEqual(book.undo(), deeds.pop())
            self.assertEqual(as_told(book.task), states.pop())
        self.assertEqual((book.undo(), book.deeds(), book.drift()), (None, [], []))

    def test_random_courses(self):
        source = random.Random(313)
        for at in range(25):
            book = Book(small_task(source, at), 1)
            past = []
            for _ in range(12):
                self.one_deed(source, book, past)
                self.assertEqual(book.deeds(), [deed for deed, _ in past])
                if past and source.random() < 0.3:
                    self.assertEqual(book.drift(), drift(past[-1][1], book.task, book.k))

    def one_deed(self, source, book, past):
        """Do something, and look at the task."""
        before = book.task
        good, bad = list(before.good), list(before.bad)
        word = source.choice(["add", "add", "remove", "turn", "undo"])
        if word == "undo":
            deed, book_task = past.pop() if past else (None, before)
            self.assertEqual((book.undo(), as_told(book.task)), (deed, as_told(book_task)))
            return
        asked = source.choice(all_examples(before))
        truth = source.random() < 0.5
        kinds = {"add": lambda: book.add(asked, truth), "remove": lambda: book.remove(asked),
                 "turn": lambda: book.turn(asked)}
        own = asked in good or asked in bad
        if own == (word == "add"):
            kind = (InvalidTask, {"reason": "again"}) if own else (UnknownExample, {"example": asked})
            self.raises(*kind, kinds[word])
            self.assertIs(book.task, before)
            return
        was = asked in good
        lists = {True: [row for row in good if row != asked], False: [row for row in bad if row != asked]}
        truth = {"add": truth, "remove": was, "turn": not was}[word]
        if word != "remove":
            lists[truth].append(asked)
        kinds[word]()
        past.append(((word, asked, truth), before))
        self.assertEqual(as_told(book.task), as_told(with_lists(before, lists[True], lists[False])))

    def test_errors(self):
        book = Book(task_of(HALVES, ["ann"], ["dan"]), 1)
        before = as_told(book.task)
        for asked in [row for row in UNKNOWN]:
            for truth in (True, False):
                self.raises(UnknownExample, {"example": asked}, book.add, asked, truth)
            self.raises(UnknownExample, {"example": asked}, book.remove, asked)
            self.raises(UnknownExample, {"example": asked}, book.turn, asked)
        for call in (book.remove, book.turn):
            self.raises(UnknownExample, {"example": example("bob")}, call, example("bob"))
        for row in ("ann", "dan"):
            for truth in (True, False):
                self.invalid(InvalidTask, "again", book.add, example(row), truth)
        self.assertEqual((as_told(book.task), book.deeds()), (before, []))

    def test_eight_examples_of_a_kind(self):
        book = Book(full_task(8, 8), 1)
        asked = candidates(book.task)[0]
        for truth in (True, False):
            self.large("examples", book.add, asked, truth)
        for kind in (book.task.good, book.task.bad):
            self.large("examples", book.turn, kind[0])
        self.assertEqual((len(book.task.good), len(book.task.bad), book.deeds()), (8, 8, []))
        book.remove(book.task.bad[0])
        first = book.task.good[0]
        book.turn(first)
        self.assertEqual((len(book.task.good), book.task.bad[-1]), (7, first))
        self.large("examples", book.drift)
        self.assertEqual(book.deeds()[-1], ("turn", first, False))

    def test_k_is_assigned(self):
        task = task_of(HALVES, ["bob"], ["dan"])
        book = Book(task, 1)
        book.add(example("cid"), True)
        first = book.drift()
        book.k = 2
        self.assertEqual(book.drift(), drift(task, book.task, 2))
        self.assertNotEqual(book.drift(), first)
        book.undo()
        self.assertEqual(book.k, 2)

    def test_the_deeds_do_not_matter(self):
        book = Book(task_of(HALVES, ["ann", "bob"], ["dan"]), 1)
        book.turn(example("bob"))
        book.remove(example("ann"))
        book.add(example("ann"), True)
        other = task_of(HALVES, ["ann"], ["dan", "bob"])
        self.assertEqual(as_told(book.task), as_told(other))
        self.assertEqual([status(book.task, 1, asked) for asked in all_examples(other)],
                         [status(other, 1, asked) for asked in all_examples(other)])

    def test_tasks_that_are_not_plain(self):
        for task in NOT_PLAIN:
            self.invalid(InvalidTask, "plain", Book, task, 1)

    def test_what_is_returned_is_new(self):
        book = Book(task_of(HALVES, ["ann"], ["dan"]), 1)
        book.add(example("bob"), True)
        told = book.drift()
        book.drift().clear()
        book.deeds().clear()
        self.assertEqual((book.drift(), book.deeds()), (told, [("add", example("bob"), True)]))

    def test_no_theory(self):
        task = task_of(HALVES, ["dan"], ["ann"])
        self.raises(NoTheory, {}, says, task, 1, example("bob"))
        book = Book(task, 1)
        book.add(example("bob"), True)
        self.assertEqual([row for row in book.drift() if row[0] == "status"], [
            ("status", example("bob"), "none", "good")])


class RandomTest(Case):
    def test_tasks_of_both_kinds(self):
        source = random.Random(314)
        for task in (some_task(source, most=2), unary_task(source, 2, 2)):
            self.assertEqual([status(task, 1, asked) for asked in task.good + task.bad],
                             ["good"] * len(task.good) + ["bad"] * len(task.bad))
