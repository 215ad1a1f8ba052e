"""Points 49 to 52, and the interface of fewrules/calls.py."""

import copy
import random

from fewrules.calls import accepts_stages, is_closed, least_set, stages_of, theory_fits
from fewrules.errors import InvalidTheory
from fewrules.tasks import Signature, Task
from fewrules.texts import read_task, read_theory
from fewrules.worlds import World
from tests.support import Case, all_rows

PATHS = read_task(
    "known tie 2\nunknown way 2\nunknown odd 1\nunknown even 1\nnames 3 calls\n"
    "world c a b\nfact tie(a,b)\nfact tie(b,c)\n"
    "world x\n"
    "good 0 way(a,c)\nbad 0 way(c,a)\n"
)
WAYS = read_theory(PATHS, ["way(a,b) if tie(a,b)", "way(a,b) if tie(a,c) and way(c,b)"])
TOLD = [
    (("way", ("a", "b")), 0, ("a", "b", "c")),
    (("way", ("b", "c")), 0, ("b", "c", "a")),
    (("way", ("a", "c")), 1, ("a", "c", "b")),
]
FACTS = [("way", ("a", "c")), ("way", ("a", "b")), ("way", ("b", "c"))]
# Two relations that call one another: how far it is to the end of the line.
PARITY = read_theory(PATHS, ["odd(a) if tie(a,b) and even(b)", "even(a) if tie(a,b) and odd(b)", "even(a) if tie(c,a)"])


def naive_least(task, theory, world):
    """The least set by the words of points 49 and 50, without the package's steps."""
    places = dict(task.signature.unknown)
    facts = set()
    while True:
        there = facts | set(task.closed[world])
        further = set()
        for name, body in theory:
            for filling in all_rows(task.worlds[world].constants, task.names):
                atoms = [task.atoms[number] for number in body]
                if all((atom[0], tuple(filling[k] for k in atom[1])) in there for atom in atoms):
                    further.add((name, filling[: places[name]]))
        if further <= facts:
            return facts
        facts |= further


def random_case(source):
    signature = Signature([("p", 1), ("q", 2)], [("f", 1), ("g", 2)])
    worlds = []
    for _ in range(2):
        constants = ["c", "a", "b"][: source.randint(1, 3)]
        facts = [("p", row) for row in all_rows(constants, 1) if source.random() < 0.4]
        facts += [("q", row) for row in all_rows(constants, 2) if source.random() < 0.4]
        worlds.append(World(constants, facts))
    rules = [(("q", (0, 2)), [("q", (0, 1)), ("p", (2,))])] if source.random() < 0.5 else []
    task = Task(signature, rules, worlds, source.randint(2, 3), good=[], bad=[], calls=source.random() < 0.8)
    theory = []
    for _ in range(source.randint(0, 4)):
        body = tuple(sorted(source.sample(range(len(task.atoms)), source.randint(0, 3))))
        theory.append((source.choice(["f", "g"]), body))
    return task, theory


class WorkedTest(Case):
    def test_the_worked_example(self):
        signature = Signature([("tie", 2)], [("way", 2)])
        world = World(["a", "b", "c", "d"], [("tie", ("a", "b")), ("tie", ("b", "c")), ("tie", ("c", "d"))])
        good = [(0, "way", ("a", "b")), (0, "way", ("a", "c")), (0, "way", ("a", "d"))]
        bad = [(0, "way", ("d", "b")), (0, "way", ("a", "a"))]
        task = Task(signature, [], [world], 3, good=good, bad=bad, calls=True)
        theory = [("way", (1,)), ("way", (2, 16))]
        self.assertEqual((len(least_set(task, theory, 0)), theory_fits(task, theory)), (6, True))


class LeastSetTest(Case):
    def test_a_theory_that_calls_itself(self):
        self.assertEqual(least_set(PATHS, WAYS, 0), FACTS)
        self.assertEqual(least_set(PATHS, WAYS, 1), [])

    def test_rules_that_call_one_another(self):
        theory = PARITY[:2] + read_theory(PATHS, ["even(a) if tie(b,a)"])
        expected = [("odd", ("a",)), ("odd", ("b",)), ("even", ("c",)), ("even", ("a",)), ("even", ("b",))]
        self.assertEqual(least_set(PATHS, theory, 0), expected)
        self.assertEqual(least_set(PATHS, PARITY[:2], 0), [])

    def test_the_order_of_the_signature_and_of_the_world(self):
        theory = read_theory(PATHS, ["even(a)", "odd(a)", "way(a,b)"])
        constants = ["c", "a", "b"]
        expected = [("way", row) for row in all_rows(constants, 2)]
        expected += [("odd", (name,)) for name in constants] + [("even", (name,)) for name in constants]
        self.assertEqual(least_set(PATHS, theory, 0), expected)

    def test_the_empty_theory_and_equal_rules(self):
        self.assertEqual(least_set(PATHS, [], 0), [])
        self.assertEqual(least_set(PATHS, WAYS + WAYS + WAYS[::-1], 0), FACTS)

    def test_a_rule_with_itself_alone_gives_nothing(self):
        self.assertEqual(least_set(PATHS, read_theory(PATHS, ["way(a,b) if way(a,b)"]), 0), [])

    def test_closed_facts_count(self):
        task = read_task("known tie 2\nunknown goal 1\nnames 2\nrule tie(b,a) if tie(a,b)\nworld a b\nfact tie(a,b)\n")
        theory = read_theory(task, ["goal(a) if tie(a,b)"])
        self.assertEqual(least_set(task, theory, 0), [("goal", ("a",)), ("goal", ("b",))])

    def test_all_cases(self):
        source = random.Random(8)
        for _ in range(120):
            task, theory = random_case(source)
            for world in range(2):
                found = least_set(task, theory, world)
                self.assertEqual((set(found), len(found)), (naive_least(task, theory, world), len(set(found))))
                told = stages_of(task, theory, world)
                self.assertIs(accepts_stages(task, theory, world, told), True)
                self.assertEqual({row[0] for row in told}, set(found))
                self.assertIs(is_closed(task, theory, world, found), True)
                for at in range(len(found)):
                    self.assertIs(is_closed(task, theory, world, found[:at] + found[at + 1 :]), False)

    def test_a_greater_body_gives_fewer_facts(self):
        source = random.Random(9)
        for _ in range(60):
            task, theory = random_case(source)
            fewer = [(name, body[1:]) for name, body in theory]
            self.assertLessEqual(set(least_set(task, theory, 0)), set(least_set(task, fewer, 0)))


class StagesTest(Case):
    def changed(self, fact=("way", ("a", "b")), number=0, filling=("a", "b", "c")):
        return accepts_stages(PATHS, WAYS, 0, [(fact, number, filling), *TOLD[1:]])

    def test_stages(self):
        self.assertIs(accepts_stages(PATHS, WAYS, 0, TOLD), True)
        for filling in [("a", "b", "a"), ("a", "b", "b")]:
            self.assertIs(self.changed(filling=filling), True)

    def test_the_empty_list(self):
        self.assertIs(accepts_stages(PATHS, WAYS, 0, []), True)
        self.assertIs(accepts_stages(PATHS, [], 1, []), True)

    def test_left_out_moved_and_put_in_twice(self):
        self.assertIs(accepts_stages(PATHS, WAYS, 0, TOLD[1:]), True)
        self.assertIs(accepts_stages(PATHS, WAYS, 0, [TOLD[0], TOLD[2]]), False)
        self.assertIs(accepts_stages(PATHS, WAYS, 0, TOLD[:2]), True)
        self.assertIs(accepts_stages(PATHS, WAYS, 0, [TOLD[1], TOLD[2], TOLD[0]]), True)
        self.assertIs(accepts_stages(PATHS, WAYS, 0, [TOLD[2], TOLD[0], TOLD[1]]), False)
        for row in TOLD:
            self.assertIs(accepts_stages(PATHS, WAYS, 0, TOLD + [row]), False)
            self.assertIs(accepts_stages(PATHS, WAYS + WAYS, 0, TOLD + [(row[0], row[1] + 2, row[2])]), False)

    def test_another_fact(self):
        for fact in [("way", ("b", "a")), ("way", ("a",)), ("way", ("a", "b", "c")), ("way", ()), ("odd", ("a",)),
                     ("tie", ("a", "b")), ("", ()), ("none", ("x", "y")), ("way", ("x", "y"))]:
            self.assertIs(self.changed(fact=fact), False)

    def test_another_number(self):
        for number in [1, 2, -1, -2, 50, -50]:
            self.assertIs(self.changed(number=number), False)

    def test_another_filling(self):
        for filling in [(), ("a",), ("a", "b"), ("a", "b", "c", "a"), ("b", "a", "c"), ("a", "c", "b"), ("a", "b", "x"),
                        ("x", "y", "z"), ("", "", ""), ("a", "b", "c") * 9]:
            self.assertIs(self.changed(filling=filling), False)

    def test_another_world(self):
        self.assertIs(accepts_stages(PATHS, WAYS, 1, TOLD), False)

    def test_what_is_passed_stays_and_what_is_returned_is_new(self):
        theory, told, facts = copy.deepcopy((WAYS, TOLD, FACTS))
        accepts_stages(PATHS, theory, 0, told)
        is_closed(PATHS, theory, 0, facts)
        theory_fits(PATHS, theory)
        least_set(PATHS, theory, 0).clear()
        stages_of(PATHS, theory, 0).clear()
        self.assertEqual((theory, told, facts), (WAYS, TOLD, FACTS))
        self.assertEqual((len(least_set(PATHS, theory, 0)), len(stages_of(PATHS, theory, 0))), (3, 3))
        self.assertEqual(PATHS.closed, [[("tie", ("a", "b")), ("tie", ("b", "c"))], []])


class ClosedTest(Case):
    def test_closed_facts(self):
        self.assertIs(is_closed(PATHS, WAYS, 0, FACTS), True)
        self.assertIs(is_closed(PATHS, WAYS, 0, FACTS[::-1]), True)
        self.assertIs(is_closed(PATHS, WAYS, 0, FACTS + [("odd", ("c",)), ("way", ("c", "c"))]), True)
        self.assertIs(is_closed(PATHS, WAYS, 1, []), True)
        self.assertIs(is_closed(PATHS, [], 0, []), True)

    def test_facts_that_are_not_closed(self):
        self.assertIs(is_closed(PATHS, WAYS, 0, []), False)
        self.assertIs(is_closed(PATHS, WAYS, 0, FACTS[1:]), False)
        # A further fact may call for others.
        self.assertIs(is_closed(PATHS, WAYS, 0, FACTS + [("way", ("c", "a"))]), False)

    def test_facts_that_are_none_or_stand_twice(self):
        for fact in [*FACTS, ("tie", ("a", "b")), ("none", ("a",)), ("", ()), ("odd", ()), ("odd", ("x",)),
                     ("odd", ("a", "b")), ("way", ("a",)), ("way", ("a", "x")), ("way", ("a", "b", "c")), ("way", ())]:
            self.assertIs(is_closed(PATHS, WAYS, 0, FACTS + [fact]), False)
        self.assertIs(is_closed(PATHS, [], 1, [("odd", ("a",))]), False)
        self.assertIs(is_closed(PATHS, [], 1, [("odd", ("x",))]), True)


class FitsTest(Case):
    def test_theories_that_fit_and_that_do_not(self):
        self.assertIs(theory_fits(PATHS, WAYS), True)
        self.assertIs(theory_fits(PATHS, WAYS[::-1]), True)
        self.assertIs(theory_fits(PATHS, []), False)
        self.assertIs(theory_fits(PATHS, WAYS[:1]), False)
        self.assertIs(theory_fits(PATHS, WAYS[1:]), False)
        self.assertIs(theory_fits(PATHS, WAYS + [("way", ())]), False)

    def test_the_world_and_the_relation_of_an_example_count(self):
        text = "known red 1\nunknown goal 1\nunknown best 1\nnames 1\nworld a\nfact red(a)\nworld a\n"
        rule = [("goal", (0,))]
        self.assertIs(theory_fits(read_task(text), []), True)
        self.assertIs(theory_fits(read_task(text), [("best", ())]), True)
        self.assertIs(theory_fits(read_task(text + "good 0 goal(a)\nbad 1 goal(a)\nbad 0 best(a)\n"), rule), True)
        self.assertIs(theory_fits(read_task(text + "good 1 goal(a)\n"), rule), False)
        self.assertIs(theory_fits(read_task(text + "good 0 goal(a)\ngood 1 goal(a)\n"), rule), False)
        self.assertIs(theory_fits(read_task(text + "good 0 best(a)\n"), rule), False)
        self.assertIs(theory_fits(read_task(text + "bad 0 goal(a)\n"), rule), False)


class ErrorTest(Case):
    def wrong(self, reason, theory):
        for call, rest in [(least_set, (0,)), (stages_of, (0,)), (theory_fits, ()), (accepts_stages, (0, [])),
                           (accepts_stages, (0, TOLD)), (is_closed, (0, [])), (is_closed, (0, [("none", ())]))]:
            self.invalid(InvalidTheory, reason, call, PATHS, theory, *rest)

    def test_rules_that_are_none_of_the_task(self):
        for name in ["none", "tie", ""]:
            self.wrong("unknown", [*WAYS, (name, ())])
        for body in [(24,), (-1,), (1, 0), (0, 0), (0, 24)]:
            self.wrong("body", [*WAYS, ("way", body)])

    def test_the_first_rule_comes_first(self):
        self.wrong("unknown", [("none", (-1,)), ("way", (-1,))])
        self.wrong("body", [("way", (-1,)), ("none", (0,))])
        self.wrong("unknown", [("way", ()), ("none", (0,)), ("way", (-1,))])

    def test_without_calls_there_are_no_atoms_of_unknown_relations(self):
        task = read_task("known red 1\nunknown goal 1\nnames 1\nworld a\n")
        self.assertEqual(least_set(task, [("goal", (0,))], 0), [])
        self.invalid(InvalidTheory, "body", least_set, task, [("goal", (1,))], 0)
