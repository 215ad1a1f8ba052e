"""Point 48, and the interface of fewrules/asks.py."""

import random

from fewrules.asks import Session
from fewrules.errors import InvalidTask, NoTheory, UnknownExample
from fewrules.says import candidates, open_examples, says
from fewrules.texts import read_task
from fewrules.theories import judge_theory, least_k, theory
from tests.plain_support import HALVES, NOT_PLAIN, example, is_covered, large_task, some_task, task_of, unary_task
from tests.support import Case
from tests.test_says import as_told, full_task

REDS = "known red 1\nunknown good 1\nnames 1\nworld ann bob cid\nfact red(ann)\nfact red(bob)\ngood 0 good(ann)\n"


class WorkedTest(Case):
    def test_the_worked_example(self):
        task = read_task(REDS)
        self.assertEqual([says(task, 1, (0, "good", (name,))) for name in ["bob", "cid"]], ["sure", "open"])
        self.assertEqual(Session(task, 1).ask(), (0, "good", ("cid",)))


class SessionTest(Case):
    def test_the_first_open_candidate_again_and_again(self):
        task = task_of(HALVES, ["ann"], ["dan"])
        session = Session(task, 1)
        self.assertEqual((session.k, session.asked, as_told(session.task)), (1, [], as_told(task)))
        self.assertEqual([session.ask(), session.ask()], [example("bob")] * 2)
        self.assertIsNone(session.answer(False))
        self.assertEqual(session.ask(), example("cid"))
        self.assertIsNone(session.answer(True))
        self.assertIsNone(session.ask())
        self.assertEqual(session.asked, [(example("bob"), False), (example("cid"), True)])
        self.assertEqual((session.task.good, session.task.bad), (
            [example("ann"), example("cid")], [example("dan"), example("bob")]))
        self.assertEqual(session.found(), [("goal", (1,))])
        self.assertEqual((task.good, task.bad), ([example("ann")], [example("dan")]))

    def test_answering_when_nothing_is_asked(self):
        session = Session(task_of(HALVES, ["bob"], ["cid"]), 1)
        before = as_told(session.task)
        for truth in (True, False):
            self.raises(UnknownExample, {"example": None}, session.answer, truth)
        self.assertEqual((as_told(session.task), session.asked, session.ask()), (before, [], None))

    def test_no_theory_at_once(self):
        for k in (0, 1, 3):
            self.raises(NoTheory, {}, Session, task_of(HALVES, ["bob"], ["ann"]), k)
        task = task_of(HALVES, ["bob", "cid"], ["dan"])
        self.raises(NoTheory, {}, Session, task, 1)
        self.assertIsNotNone(Session(task, 2))

    def test_tasks_that_are_not_plain(self):
        for task in NOT_PLAIN:
            for k in (0, 1):
                self.invalid(InvalidTask, "plain", Session, task, k)

    def test_eight_examples_of_a_kind(self):
        session = Session(full_task(8, 3), 1)
        before = as_told(session.task)
        self.large("examples", session.ask)
        self.large("examples", session.answer, True)
        self.assertEqual((as_told(session.task), session.asked), (before, []))
        self.assertEqual(session.found(), [("goal", (0,))])

    def test_the_limit_is_reached_by_answers(self):
        task = read_task("known red 1\nunknown goal 1\nnames 1\n" + "world a b c d e f\nfact red(a)\n" * 4
                         + "".join(f"bad 0 goal({name})\n" for name in "bcdef"))
        session = Session(task, 1)
        while session.ask() is not None:
            session.answer(False)
        self.assertEqual(session.task.good, [])
        self.assertEqual(session.asked, [((0, "goal", ("a",)), False)])

    def test_random_sessions(self):
        source = random.Random(200)
        lengths = []
        for at in range(60):
            task = some_task(source, most=2) if at % 2 else unary_task(source, 2, 2)
            k = source.randint(1, 2)
            if theory(task, k) is None or len(candidates(task)) > 12:
                continue
            session = Session(task, k)
            while len(session.task.good) < 8 and len(session.task.bad) < 8:
                left = open_examples(session.task, k)
                asked = session.ask()
                self.assertEqual(asked, left[0] if left else None)
                if asked is None:
                    break
                self.settled_stay(session, k)
            lengths.append(len(session.asked))
            told = [(one, True) for one in session.task.good[len(task.good):]]
            told += [(one, False) for one in session.task.bad[len(task.bad):]]
            self.assertEqual(sorted(told), sorted(session.asked))
            self.assertIs(judge_theory(session.task, session.found()), True)
            self.assertEqual(session.found(), theory(session.task, k))
            if session.ask() is None:
                # All fitting theories have the same facts now: those that this one has.
                rules = session.found()
                for one in candidates(session.task):
                    covered = any(is_covered(session.task, body, one) for _, body in rules)
                    self.assertEqual(says(session.task, k, one), "sure" if covered else "never")
        self.assertGreater(max(lengths), 3)

    def settled_stay(self, session, k):
        """Answer, and look at what was settled ahead of it."""
        before = {one: says(session.task, k, one) for one in candidates(session.task)}
        asked = session.ask()
        truth = len(session.asked) % 2 == 0
        session.answer(truth)
        self.assertEqual(session.asked[-1], (asked, truth))
        for one, word in before.items():
            if word != "open":
                self.assertEqual(says(session.task, k, one), word)

    def test_what_is_returned_is_new(self):
        session = Session(task_of(HALVES, ["bob"], ["cid"]), 1)
        session.found().clear()
        self.assertEqual(session.found(), [("goal", (0,))])


class LimitTest(Case):
    def test_a_large_task(self):
        task = large_task(3, 3)
        session = Session(task, least_k(task))
        for truth in (True, False, True, False):
            self.assertIsNotNone(session.ask())
            session.answer(truth)
        self.assertEqual(len(session.asked), 4)
