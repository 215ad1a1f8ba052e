"""Points 54, 58 and 59, and the interface of fewrules/ranges.py."""

import random
from itertools import product

from fewrules.boxes import accepts_refutation, boxes_of, chart, search
from fewrules.calls import least_set, theory_fits
from fewrules.errors import InvalidTheory, NoTheory, UnknownExample
from fewrules.ranges import accepts_saying, count_fitting, edge_theories, fitting_at, number_of, says
from fewrules.texts import read_task
from tests.slots_support import (
    PARITY_TEXT, REDS, WAYS, WAYS_THEORY, all_theories, in_order, is_within, naive_fitting, naive_word, small_task,
    with_lists,
)
from tests.support import Case, all_rows
from tests.test_boxes import limit_task

# Two bodies fit here: red(a) alone, and red(a) with big(a).
PAIR = read_task(
    "known red 1\nknown big 1\nunknown goal 1\nnames 1\nworld ann bob cid eve\n"
    "fact red(ann)\nfact big(ann)\nfact red(cid)\nfact big(bob)\ngood 0 goal(ann)\nbad 0 goal(bob)\n"
)
UNKNOWN = [(1, "goal", ("ann",)), (-1, "goal", ("ann",)), (0, "red", ("ann",)), (0, "none", ("ann",)), (0, "goal", ()),
           (0, "goal", ("ann", "bob")), (0, "goal", ("x",)), (0, "goal", ("ann",)), (0, "goal", ("bob",))]


def one(name, world=0):
    return (world, "goal", (name,))


class CountTest(Case):
    def test_small_numbers(self):
        self.assertEqual(count_fitting(PAIR, ["goal"]), 2)
        self.assertEqual([fitting_at(PAIR, ["goal"], at) for at in range(-1, 3)],
                         [None, [("goal", (0,))], [("goal", (0, 1))], None])
        self.assertEqual([fitting_at(PAIR, ["goal"], at) for at in (-2, 10**30, -(10**30))], [None] * 3)
        self.assertEqual(number_of(PAIR, ["goal"], [("goal", (0,))]), 0)
        self.assertEqual(number_of(PAIR, ["goal"], [("goal", (0, 1))]), 1)
        for body in [(), (1,)]:
            self.assertIsNone(number_of(PAIR, ["goal"], [("goal", body)]))

    def test_no_slots(self):
        self.assertEqual((count_fitting(PAIR, []), fitting_at(PAIR, [], 0), number_of(PAIR, [], [])), (0, None, None))
        task = with_lists(PAIR, [], PAIR.bad)
        self.assertEqual((count_fitting(task, []), fitting_at(task, [], 0), number_of(task, [], [])), (1, [], 0))
        self.assertIsNone(fitting_at(task, [], 1))
        self.assertEqual(edge_theories(task, []), ([[]], [[]]))
        self.assertEqual(edge_theories(PAIR, []), ([], []))

    def test_all_small_tasks(self):
        source = random.Random(220)
        counts = []
        for at in range(120):
            task, slots = small_task(source, calls=at % 3 != 0)
            fitting = naive_fitting(task, slots)
            self.assertEqual(count_fitting(task, slots), len(fitting))
            counts.append(len(fitting))
            for number in {0, 1, len(fitting) // 2, len(fitting) - 1, *source.choices(range(len(fitting) + 1), k=3)}:
                if 0 <= number < len(fitting):
                    self.assertEqual(fitting_at(task, slots, number), fitting[number])
                    self.assertEqual(number_of(task, slots, fitting[number]), number)
            for number in (-1, len(fitting), len(fitting) + 1):
                self.assertIsNone(fitting_at(task, slots, number))
            for theory in source.sample(all_theories(task, slots), 2):
                if theory not in fitting:
                    self.assertIsNone(number_of(task, slots, theory))
        self.assertGreater(sum(count > 20 for count in counts), 10)
        self.assertGreater(counts.count(0), 10)

    def test_all_numbers_of_a_task(self):
        source = random.Random(221)
        done = 0
        while done < 6:
            task, slots = small_task(source, calls=done % 2 == 0)
            fitting = naive_fitting(task, slots)
            if 5 < len(fitting) < 60:
                self.assertEqual([fitting_at(task, slots, at) for at in range(len(fitting))], fitting)
                self.assertEqual([number_of(task, slots, theory) for theory in fitting], list(range(len(fitting))))
                done += 1

    def test_the_boxes_of_a_chart_have_as_many(self):
        for task, slots in [(WAYS, ["way"]), (read_task(PARITY_TEXT), ["even", "even", "odd"]), (REDS, ["goal"] * 4)]:
            boxes = boxes_of(task, slots, chart(task, slots))
            told = sum(2 ** sum(len(may) - len(must) for must, may in box) for box in boxes)
            self.assertEqual(count_fitting(task, slots), told)

    def test_two_slots_that_call_themselves(self):
        slots = ["way", "way"]
        count = count_fitting(WAYS, slots)
        number = number_of(WAYS, slots, WAYS_THEORY)
        self.assertEqual(fitting_at(WAYS, slots, number), WAYS_THEORY)
        first, last = fitting_at(WAYS, slots, 0), fitting_at(WAYS, slots, count - 1)
        self.assertTrue(theory_fits(WAYS, first) and theory_fits(WAYS, last))
        self.assertLess(in_order(WAYS, first), in_order(WAYS, WAYS_THEORY))
        self.assertLess(in_order(WAYS, WAYS_THEORY), in_order(WAYS, last))
        self.assertIsNone(fitting_at(WAYS, slots, count))
        self.assertEqual(number_of(WAYS, slots, WAYS_THEORY[::-1]), number_of(WAYS, slots, WAYS_THEORY[::-1]))
        self.assertEqual((count_fitting(WAYS, ["way"]), fitting_at(WAYS, ["way"], 0)), (0, None))


class EdgeTest(Case):
    def test_a_pair(self):
        self.assertEqual(edge_theories(PAIR, ["goal"]), ([[("goal", (0,))]], [[("goal", (0, 1))]]))
        general, special = edge_theories(PAIR, ["goal", "goal"])
        self.assertEqual(general, [[("goal", (0,)), ("goal", (0,))]])
        self.assertEqual(special, [[("goal", (0, 1)), ("goal", (0, 1))]])

    def test_all_small_tasks(self):
        source = random.Random(222)
        several = 0
        for at in range(120):
            task, slots = small_task(source, calls=at % 3 != 0)
            fitting = naive_fitting(task, slots)
            general = [one for one in fitting
                       if not any(other != one and is_within(other, one) for other in fitting)]
            special = [one for one in fitting
                       if not any(other != one and is_within(one, other) for other in fitting)]
            self.assertEqual(edge_theories(task, slots), (general, special))
            several += len(general) > 1 or len(special) > 1
            if at % 10 == 0:
                between = [one for one in all_theories(task, slots)
                           if any(is_within(low, one) for low in general) and any(is_within(one, up) for up in special)]
                self.assertEqual(between, fitting)
        self.assertGreater(several, 10)

    def test_in_order(self):
        task = with_lists(PAIR, [], [one("ann"), one("bob"), one("cid")])
        general, special = edge_theories(with_lists(PAIR, [], [one("eve")]), ["goal"])
        self.assertEqual(general, [[("goal", (1,))], [("goal", (0,))]])
        self.assertEqual(special, [[("goal", (0, 1))]])
        self.assertEqual(edge_theories(task, ["goal"]), ([], []))


class SaysTest(Case):
    def look_at(self, task, slots, example):
        """Ask, judge the answer, and return its word."""
        told = says(task, slots, example)
        self.assertIs(accepts_saying(task, slots, example, told), True)
        if told[0] == "open":
            for theory, has in [(told[1], False), (told[2], True)]:
                self.assertEqual([name for name, _ in theory], slots)
                self.assertIs(theory_fits(task, theory), True)
                self.assertIs(example[1:] in least_set(task, theory, example[0]), has)
        return told[0]

    def test_sure_never_and_open(self):
        words = [self.look_at(PAIR, ["goal"], one(name)) for name in ("cid", "eve")]
        self.assertEqual(words, ["open", "never"])
        task = with_lists(PAIR, [one("cid")], PAIR.bad)
        self.assertEqual(self.look_at(task, ["goal"], one("ann")), "sure")
        self.assertEqual(self.look_at(task, ["goal"], one("eve")), "never")

    def test_the_tree_is_a_refutation_of_the_task_with_the_example(self):
        kind, tree = says(PAIR, ["goal"], one("eve"))
        self.assertEqual(kind, "never")
        more = with_lists(PAIR, [*PAIR.good, one("eve")], PAIR.bad)
        self.assertIs(accepts_refutation(more, ["goal"], tree), True)
        task = with_lists(PAIR, [one("cid")], PAIR.bad)
        kind, tree = says(task, ["goal"], one("ann"))
        self.assertEqual(kind, "sure")
        self.assertIs(accepts_refutation(with_lists(task, task.good, [*task.bad, one("ann")]), ["goal"], tree), True)

    def test_all_small_tasks(self):
        source = random.Random(223)
        counts = {"sure": 0, "never": 0, "open": 0}
        for at in range(70):
            task, slots = small_task(source, calls=at % 3 != 0)
            pool = [(number, name, row) for number, world in enumerate(task.worlds)
                    for name, places in task.signature.unknown for row in all_rows(world.constants, places)]
            pool = [example for example in pool if example not in task.good + task.bad]
            for example in source.sample(pool, min(2, len(pool))):
                word = naive_word(task, slots, example)
                if word is None:
                    self.raises(NoTheory, {}, says, task, slots, example)
                else:
                    self.assertEqual(self.look_at(task, slots, example), word)
                    counts[word] += 1
        self.assertGreater(min(counts.values()), 5)

    def test_eight_examples_of_a_kind(self):
        text = "known red 1\nunknown goal 1\nnames 1\nworld a b c d e f\nfact red(a)\nfact red(b)\nworld a b c d e f\n"
        text += "fact red(a)\nfact red(b)\nfact red(c)\nfact red(d)\nfact red(e)\nfact red(f)\n"
        bad = [one(name) for name in "cde"]
        task = with_lists(read_task(text), [one("a")], bad)
        self.assertEqual(self.look_at(task, ["goal"], one("f")), "never")
        good = [one("a"), one("b"), *[one(name, 1) for name in "abcdef"]]
        task = with_lists(task, good, bad)
        self.assertEqual(self.look_at(task, ["goal"], one("f")), "never")
        text = text.replace("world a b c d e f\nfact red(a)\nfact red(b)\n", "world a b c d e f\n", 1)
        bad = [*[one(name) for name in "abcdef"], ]
        task = with_lists(read_task(text + "world a b c d e f\nfact red(a)\n"), [one("a", 1)],
                          [*bad, one("b", 2), one("c", 2)])
        for name, at, word in [("b", 1, "sure"), ("a", 2, "sure"), ("d", 2, "never")]:
            self.assertEqual(self.look_at(task, ["goal"], one(name, at)), word)

    def test_unknown_examples(self):
        for example in UNKNOWN:
            self.raises(UnknownExample, {"example": example}, says, PAIR, ["goal"], example)
            self.raises(UnknownExample, {"example": example}, accepts_saying, PAIR, ["goal"], example, ("open", [], []))
        self.raises(NoTheory, {}, says, PAIR, [], one("cid"))
        for example in UNKNOWN:
            self.raises(UnknownExample, {"example": example}, says, PAIR, [], example)

    def test_a_world_without_examples(self):
        task = read_task("known red 1\nunknown goal 1\nnames 1\nworld a b\nfact red(a)\nworld c d\nfact red(c)\n"
                         "good 0 goal(a)\nbad 0 goal(b)\n")
        self.assertEqual([self.look_at(task, ["goal"], one(name, 1)) for name in "cd"], ["sure", "never"])

    def test_helper_relations(self):
        task = read_task(PARITY_TEXT)
        for example in [(0, "odd", ("b",)), (0, "odd", ("e",)), (0, "odd", ("a",))]:
            self.assertIn(self.look_at(task, ["even", "even", "odd"], example), ("sure", "open", "never"))


class AcceptsTest(Case):
    def test_right_sayings_of_other_examples_and_kinds(self):
        never = says(PAIR, ["goal"], one("eve"))
        self.assertIs(accepts_saying(PAIR, ["goal"], one("eve"), never), True)
        self.assertIs(accepts_saying(PAIR, ["goal"], one("cid"), never), False)
        self.assertIs(accepts_saying(PAIR, ["goal"], one("eve"), ("sure", never[1])), False)
        self.assertIs(accepts_saying(PAIR, ["goal", "goal"], one("eve"), never), False)

    def test_open_sayings(self):
        less, more = [("goal", (0, 1))], [("goal", (0,))]
        for saying, fine in [(("open", less, more), True), (("open", more, less), False), (("open", more, more), False),
                             (("open", less, less), False), (("open", [], more), False), (("open", less, []), False),
                             (("open", less * 2, more), False), (("open", less, more * 2), False),
                             (("open", less, [("goal", ())]), False), (("open", [("goal", (1,))], more), False)]:
            self.assertIs(accepts_saying(PAIR, ["goal"], one("cid"), saying), fine)
        self.assertIs(accepts_saying(PAIR, ["goal"], one("eve"), ("open", less, more)), False)
        task = read_task(PARITY_TEXT)
        theory = search(task, ["even", "even", "odd"])[1]
        self.assertIs(accepts_saying(task, ["even", "odd", "even"], (0, "odd", ("e",)), ("open", theory, theory)), False)

    def test_changed_trees(self):
        never = says(PAIR, ["goal"], one("eve"))
        tree = never[1]
        for changed in [("lacks", one("eve"), []), ("split", 0, 9, tree, tree), ("split", 0, 0, tree, tree),
                        ("all", [[]], [[]]), ("has", one("bob"), [])]:
            self.assertIs(accepts_saying(PAIR, ["goal"], one("eve"), ("never", changed)), False)
            self.assertIs(accepts_saying(PAIR, ["goal"], one("eve"), ("sure", changed)), False)

    def test_a_tree_with_a_leaf_all(self):
        task = with_lists(PAIR, [one("cid")], PAIR.bad)
        tree = chart(with_lists(PAIR, [one("cid"), one("ann")], PAIR.bad), ["goal"])
        self.assertIs(accepts_saying(task, ["goal"], one("ann"), ("never", tree)), False)


class ErrorTest(Case):
    def test_slots(self):
        for slots, error in [(["goal"] * 5, "large"), (["none"] * 5, "large"), (["red"], "unknown"), ([""], "unknown")]:
            for call, rest in [(count_fitting, ()), (fitting_at, (0,)), (number_of, ([("goal", ())],)),
                               (edge_theories, ()), (says, (one("cid"),)), (says, (one("x"),)),
                               (accepts_saying, (one("cid"), ("open", [], []))), (fitting_at, (-1,))]:
                if error == "large":
                    self.large("slots", call, PAIR, slots, *rest)
                else:
                    self.invalid(InvalidTheory, "unknown", call, PAIR, slots, *rest)

    def test_theories_come_first(self):
        for slots in (["goal"], ["goal"] * 5, ["none"]):
            for theory, reason in [([("none", ())], "unknown"), ([("goal", (2,))], "body"), ([("red", (9,))], "unknown"),
                                   ([("goal", ()), ("goal", (1, 0)), ("none", ())], "body")]:
                self.invalid(InvalidTheory, reason, number_of, PAIR, slots, theory)
        self.large("slots", number_of, PAIR, ["goal"] * 5, [])
        self.invalid(InvalidTheory, "unknown", number_of, PAIR, ["none"], [])

    def test_theories_for_other_slots(self):
        for theory in ([], [("goal", (0,))] * 2, [("goal", ())] * 5):
            self.invalid(InvalidTheory, "slots", number_of, PAIR, ["goal"], theory)
        task = read_task(PARITY_TEXT)
        theory = [("odd", ()), ("even", ())]
        self.invalid(InvalidTheory, "slots", number_of, task, ["even", "odd"], theory)
        self.assertIsNone(number_of(task, ["odd", "even"], theory))

    def test_what_is_returned_is_new_and_what_is_passed_stays(self):
        slots = ["goal"]
        for call in (lambda: edge_theories(PAIR, slots)[0], lambda: edge_theories(PAIR, slots)[0][0],
                     lambda: fitting_at(PAIR, slots, 0), lambda: says(PAIR, slots, one("cid"))[1]):
            before = list(call())
            call().clear()
            self.assertEqual(call(), before)
        theory = [("goal", (0,))]
        number_of(PAIR, slots, theory)
        self.assertEqual((slots, theory), (["goal"], [("goal", (0,))]))


class LimitTest(Case):
    def test_one_slot_at_the_limits(self):
        source = random.Random(224)
        for calls in (True, False):
            task, _ = limit_task(source, calls)
            slots = ["way"]
            task = with_lists(task, task.good[:1], task.bad)
            count = count_fitting(task, slots)
            if count:
                for number in (count - 1,):
                    self.assertEqual(number_of(task, slots, fitting_at(task, slots, number)), number)
            for at, row in product((1, 3), [("a", "b"), ("f", "c")]):
                if (at, "way", row) not in task.good + task.bad and count:
                    told = says(task, slots, (at, "way", row))
                    self.assertIs(accepts_saying(task, slots, (at, "way", row), told), True)
