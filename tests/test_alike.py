"""Points 27 to 29, and the interface of fewrules/alike.py."""

import random

from fewrules.alike import accepts_parting, are_alike, core_of, groups, is_general, parting
from fewrules.closure import missing_fact
from fewrules.errors import InvalidTheory
from fewrules.folds import closure_of, fold_of
from fewrules.tasks import Signature, Task
from fewrules.texts import read_rule, read_task, write_rule
from fewrules.worlds import World
from tests.support import Case, all_rows, many_facts
from tests.test_folds import naive_folds, random_case

TIES = read_task("known tie 2\nunknown way 2\nnames 3\nrule tie(b,a) if tie(a,b)\nworld x\n")
BARE = read_task("known red 1\nknown tie 2\nunknown goal 1\nunknown way 2\nnames 3 calls\nworld x\n")


def rule(text, task=BARE):
    return read_rule(task, text)


def naive_gives(task, one, world, facts, constants):
    """Whether the rule gives the fact with these constants, by the words of point 49."""
    have = set(world.facts) | set(facts)
    atoms = [task.atoms[number] for number in one[1]]
    for rest in all_rows(world.constants, task.names - len(constants)):
        filling = tuple(constants) + rest
        if all((name, tuple(filling[k] for k in row)) in have for name, row in atoms):
            return True
    return False


def naive_alike(task, first, second):
    return first[0] == second[0] and bool(naive_folds(task, first, second) and naive_folds(task, second, first))


def naive_core(task, one):
    name, left = one
    for number in one[1]:
        less = tuple(other for other in left if other != number)
        if naive_alike(task, (name, less), (name, left)):
            left = less
    return (name, left)


class WorkedTest(Case):
    def test_the_worked_example(self):
        first = read_rule(TIES, "way(a,b) if tie(a,c) and tie(c,b)")
        second = read_rule(TIES, "way(a,b) if tie(a,c) and tie(b,c)")
        self.assertEqual(
            (are_alike(TIES, first, second), fold_of(TIES, first, second), len(closure_of(TIES, first[1]))),
            (True, (0, 1, 2), 4),
        )
        third = read_rule(TIES, "way(a,b) if tie(a,b) and tie(b,a) and tie(a,c)")
        self.assertEqual(write_rule(TIES, core_of(TIES, third)), "way(a,b) if tie(b,a)")
        self.assertIs(is_general(TIES, first, third), False)


class GeneralTest(Case):
    def one_way(self, first, second, task=BARE):
        """The first rule is at least as general as the second one, and not the other way round."""
        first, second = rule(first, task), rule(second, task)
        self.assertIs(is_general(task, first, second), True)
        self.assertIs(is_general(task, second, first), False)
        self.assertIs(are_alike(task, first, second), False)
        self.assertIs(are_alike(task, second, first), False)

    def alike(self, first, second, task=BARE):
        first, second = rule(first, task), rule(second, task)
        for one, other in [(first, second), (second, first), (first, first)]:
            self.assertIs(is_general(task, one, other), True)
            self.assertIs(are_alike(task, one, other), True)

    def test_one_way(self):
        self.one_way("goal(a)", "goal(a) if red(a)")
        self.one_way("goal(a) if tie(a,b)", "goal(a) if tie(a,b) and tie(b,c)")
        self.one_way("goal(a) if tie(b,c)", "goal(a) if tie(a,a)")
        self.one_way("goal(a) if way(a,b)", "goal(a) if way(a,a) and goal(b)")

    def test_neither_way(self):
        first, second = rule("goal(a) if red(a)"), rule("goal(a) if red(b) and tie(a,b)")
        self.assertIs(is_general(BARE, first, second), False)
        self.assertIs(is_general(BARE, second, first), False)
        self.assertIs(are_alike(BARE, first, second), False)

    def test_alike(self):
        self.alike("goal(a) if tie(a,b)", "goal(a) if tie(a,c)")
        self.alike("goal(a) if tie(a,b)", "goal(a) if tie(a,b) and tie(a,c)")
        self.alike("goal(a) if goal(b) and way(a,c)", "goal(a) if goal(c) and way(a,b)")
        self.alike("way(a,b)", "way(a,b)")

    def test_with_background_rules(self):
        self.alike("way(a,b) if tie(a,b)", "way(a,b) if tie(b,a)", TIES)
        self.one_way("way(a,b) if tie(c,b)", "way(a,b) if tie(b,c) and tie(a,a)", TIES)

    def test_random_cases_by_folds(self):
        source = random.Random(20)
        for _ in range(150):
            task, first, second = random_case(source)
            self.assertIs(is_general(task, first, second), bool(naive_folds(task, first, second)))
            self.assertIs(are_alike(task, first, second), naive_alike(task, first, second))


class PartingTest(Case):
    def test_there_is_one_exactly_if_the_second_is_not_as_general(self):
        source = random.Random(21)
        found = 0
        for _ in range(200):
            task, first, second = random_case(source)
            told = parting(task, first, second)
            if is_general(task, second, first):
                self.assertIsNone(told)
            else:
                found += 1
                world, facts, constants = told
                self.assertIsNone(missing_fact(task.background, world))
                self.assertTrue(naive_gives(task, first, world, facts, constants))
                self.assertFalse(naive_gives(task, second, world, facts, constants))
                self.assertIs(accepts_parting(task, first, second, told), True)
                self.assertIs(accepts_parting(task, second, first, told), False)
        self.assertGreater(found, 50)

    def test_no_parting_is_accepted_where_there_is_none(self):
        source = random.Random(22)
        for _ in range(40):
            task, first, second = random_case(source)
            if is_general(task, second, first):
                for _ in range(30):
                    told = self.some_triple(source, task, dict(task.signature.unknown)[first[0]])
                    self.assertIs(accepts_parting(task, first, second, told), False)

    def some_triple(self, source, task, places):
        constants = ["x", "y", "z"][:source.randint(1, 3)]
        rows = [(name, row) for name, many in task.signature.known for row in all_rows(constants, many)]
        world = World(constants, [fact for fact in rows if source.random() < 0.7])
        rows = [(name, row) for name, many in task.signature.unknown for row in all_rows(constants, many)]
        return (world, [fact for fact in rows if source.random() < 0.7], tuple(source.choices(constants, k=places)))

    def test_the_triples_that_are_partings(self):
        source = random.Random(23)
        for _ in range(60):
            task, first, second = random_case(source)
            world, facts, row = self.some_triple(source, task, dict(task.signature.unknown)[first[0]])
            wanted = missing_fact(task.background, world) is None
            wanted = wanted and naive_gives(task, first, world, facts, row)
            wanted = wanted and not naive_gives(task, second, world, facts, row)
            self.assertIs(accepts_parting(task, first, second, (world, facts, row)), wanted)


class AcceptsPartingTest(Case):
    FIRST = rule("goal(a) if way(a,b) and tie(b,a)")
    SECOND = rule("goal(a) if way(a,b) and red(a)")
    WORLD = World(["x", "y"], [("tie", ("y", "x")), ("red", ("y",))])
    FACTS = [("way", ("x", "y")), ("goal", ("y",))]

    def accepted(self, wanted, world=None, facts=None, constants=("x",), task=BARE):
        told = (world or self.WORLD, self.FACTS if facts is None else facts, constants)
        self.assertIs(accepts_parting(task, self.FIRST, self.SECOND, told), wanted)

    def test_a_parting(self):
        self.accepted(True)
        self.accepted(True, facts=self.FACTS[:1])
        self.accepted(True, facts=self.FACTS[::-1])
        self.accepted(True, world=World(["y", "u", "x", "v", "w", "z"], [("tie", ("y", "x"))]))

    def test_facts(self):
        self.accepted(False, facts=[])
        self.accepted(False, facts=self.FACTS[1:])
        self.accepted(False, facts=[*self.FACTS, self.FACTS[0]])
        self.accepted(False, facts=[*self.FACTS, self.FACTS[1]])
        for fact in [("red", ("x",)), ("tie", ("x", "x")), ("none", ("x",)), ("", ()), ("goal", ()),
                     ("goal", ("x", "x")), ("way", ("x",)), ("goal", ("z",)), ("way", ("x", "ann")), ("goal", ("",))]:
            self.accepted(False, facts=[*self.FACTS, fact])

    def test_constants(self):
        for constants in [(), ("y",), ("z",), ("x", "x"), ("x", "y"), ("",)]:
            self.accepted(False, constants=constants)

    def test_worlds(self):
        self.accepted(False, world=World(["x", "y"], []))
        self.accepted(False, world=World(["x"], []))
        self.accepted(False, world=World(["x", "y"], [*self.WORLD.facts, ("red", ("x",))]))

    def test_a_world_that_is_not_closed(self):
        text = "known red 1\nknown tie 2\nunknown goal 1\nunknown way 2\nnames 3 calls\n"
        task = read_task(text + "rule red(b) if tie(a,b)\nworld x\n")
        first, second = rule("way(a,b) if tie(a,b)", task), rule("way(a,b) if tie(b,a)", task)
        fine, bad = World(["x", "y"], [("tie", ("x", "y")), ("red", ("y",))]), World(["x", "y"], [("tie", ("x", "y"))])
        self.assertIs(accepts_parting(task, first, second, (fine, [], ("x", "y"))), True)
        self.assertIs(accepts_parting(task, first, second, (bad, [], ("x", "y"))), False)

    def test_more_constants_than_names(self):
        text = "known tie 2\nunknown goal 1\nnames 2\nrule tie(a,d) if tie(a,b) and tie(b,c) and tie(c,d)\nworld x\n"
        task = read_task(text)
        first, second = rule("goal(a) if tie(a,b)", task), rule("goal(a) if tie(b,a)", task)
        ties = [("tie", ("x", "y")), ("tie", ("y", "z")), ("tie", ("z", "w"))]
        world = World(["x", "y", "z", "w"], ties)
        self.assertIs(accepts_parting(task, first, second, (world, [], ("x",))), False)
        world = World(["x", "y", "z", "w"], [*ties, ("tie", ("x", "w"))])
        self.assertIs(accepts_parting(task, first, second, (world, [], ("x",))), True)
        self.assertIs(accepts_parting(task, first, second, (world, [], ("y",))), False)

    def test_a_world_with_many_facts(self):
        task = read_task("known big 3\nunknown goal 1\nnames 4\nworld x\n")
        world = World(["a", "b", "c", "d", "e", "f"], many_facts(200))
        first = rule("goal(a) if big(a,b,c) and big(c,d,a)", task)
        second = rule("goal(a) if big(a,a,a) and big(b,b,a)", task)
        self.assertIs(accepts_parting(task, first, second, (world, [], ("f",))), True)
        self.assertIs(accepts_parting(task, first, second, (world, [], ("a",))), False)

    def test_nothing_that_is_passed_is_changed(self):
        facts = list(self.FACTS)
        accepts_parting(BARE, self.FIRST, self.SECOND, (self.WORLD, facts, ("x",)))
        self.assertEqual((facts, len(self.WORLD.facts)), (self.FACTS, 2))


class CoreTest(Case):
    def core(self, text, wanted, task=BARE):
        self.assertEqual(write_rule(task, core_of(task, rule(text, task))), wanted)

    def test_atoms_that_fold_back(self):
        self.core("goal(a) if tie(a,b) and tie(a,c)", "goal(a) if tie(a,c)")
        self.core("goal(a) if tie(a,b) and tie(b,c) and tie(a,c) and tie(c,c)", "goal(a) if tie(a,c) and tie(c,c)")
        self.core("goal(a) if tie(a,a) and tie(a,b) and tie(b,c) and tie(c,a)", "goal(a) if tie(a,a)")
        self.core("way(a,b) if red(a) and red(c) and tie(a,b) and tie(c,b)", "way(a,b) if red(a) and tie(a,b)")

    def test_a_core_stays(self):
        for text in ["goal(a)", "goal(a) if red(a)", "goal(a) if tie(a,b) and tie(b,a)",
                     "way(a,b) if goal(c) and way(b,a)", "way(a,b) if red(b) and red(c) and tie(a,b) and tie(c,b)"]:
            self.core(text, text)

    def test_with_background_rules(self):
        self.core("way(a,b) if tie(a,b) and tie(b,a)", "way(a,b) if tie(b,a)", TIES)
        self.core("way(a,b) if tie(a,c) and tie(c,a) and tie(c,b)", "way(a,b) if tie(c,a) and tie(c,b)", TIES)

    def test_random_cases(self):
        source = random.Random(24)
        for _ in range(80):
            task, first, second = random_case(source)
            found = core_of(task, first)
            self.assertEqual(found, naive_core(task, first))
            self.assertTrue(are_alike(task, first, found))
            self.assertEqual(core_of(task, found), found)
            for number in found[1]:
                less = (found[0], tuple(other for other in found[1] if other != number))
                self.assertFalse(are_alike(task, found, less))
            if not task.background and are_alike(task, first, second):
                self.assertEqual(len(core_of(task, second)[1]), len(found[1]))

    def test_all_atoms_at_the_limits(self):
        rules = "".join(f"rule p(a,{x}) if p(a,b) and p(b,c) and p(c,{y})\n" for x in "abcd" for y in "abcd"
                        if x in "abc" or y == "d")
        task = read_task("known p 2\nknown q 2\nknown r 2\nknown s 2\nunknown goal 1\nnames 4\n" + rules + "world x\n")
        whole = ("goal", tuple(range(64)))
        found = core_of(task, whole)
        self.assertLess(len(found[1]), 8)
        self.assertTrue(are_alike(task, whole, found))
        self.assertEqual(core_of(task, found), found)


class GroupsTest(Case):
    def test_in_the_order_of_the_list(self):
        texts = ["goal(a) if tie(a,b)", "way(a,b)", "goal(a) if tie(a,c)", "goal(a)", "way(a,b) if red(c)",
                 "goal(a) if tie(a,b) and tie(a,c)", "way(a,b)", "goal(a) if tie(a,b)"]
        rules = [rule(text) for text in texts]
        wanted = [[0, 2, 5, 7], [1, 6], [3], [4]]
        self.assertEqual(groups(BARE, rules), [[rules[at] for at in row] for row in wanted])
        self.assertEqual(groups(BARE, []), [])

    def test_rules_of_different_relations(self):
        rules = [("goal", ()), ("way", ()), ("way", ()), ("goal", ())]
        self.assertEqual(groups(BARE, rules), [[rules[0], rules[3]], [rules[1], rules[2]]])

    def test_random_cases(self):
        source = random.Random(25)
        for _ in range(40):
            task, first, second = random_case(source)
            atoms = range(len(task.atoms))
            bodies = [tuple(sorted(source.sample(atoms, source.randint(0, 2)))) for _ in range(6)]
            rules = [first, second, *[(first[0], body) for body in bodies], second]
            wanted = []
            for one in rules:
                home = [row for row in wanted if naive_alike(task, row[0], one)]
                if home:
                    home[0].append(one)
                else:
                    wanted.append([one])
            self.assertEqual(groups(task, rules), wanted)

    def test_the_lists_are_new(self):
        rules = [("goal", ())]
        groups(BARE, rules)[0].append(("goal", (1,)))
        self.assertEqual((rules, groups(BARE, rules)), ([("goal", ())], [[("goal", ())]]))


class ErrorTest(Case):
    FINE = ("way", (0,))
    TRIPLE = (World(["x"], []), [], ("x",))

    def wrong(self, reason, first, second):
        for call in (is_general, are_alike, parting):
            self.invalid(InvalidTheory, reason, call, BARE, first, second)
        self.invalid(InvalidTheory, reason, accepts_parting, BARE, first, second, self.TRIPLE)
        self.invalid(InvalidTheory, reason, accepts_parting, BARE, first, second, (World(["x"], []), [("no", ())], ()))

    def test_rules_that_are_none_of_the_task(self):
        for name in ["none", "tie", ""]:
            self.wrong("unknown", (name, ()), self.FINE)
            self.wrong("unknown", self.FINE, (name, ()))
        for numbers in [(24,), (-1,), (1, 0), (2, 2)]:
            self.wrong("body", ("way", numbers), self.FINE)
            self.wrong("body", self.FINE, ("way", numbers))

    def test_rules_of_different_relations(self):
        self.wrong("relations", ("goal", ()), self.FINE)
        self.wrong("relations", self.FINE, ("goal", ()))

    def test_which_comes_first(self):
        self.wrong("unknown", ("none", (-1,)), ("way", (-1,)))
        self.wrong("body", ("way", (-1,)), ("none", ()))
        self.wrong("body", ("goal", (-1,)), self.FINE)
        self.wrong("unknown", self.FINE, ("none", (-1,)))
        self.wrong("body", ("goal", ()), ("way", (-1,)))

    def test_cores_and_groups(self):
        self.invalid(InvalidTheory, "unknown", core_of, BARE, ("tie", (-1,)))
        self.invalid(InvalidTheory, "unknown", core_of, BARE, ("none", ()))
        self.invalid(InvalidTheory, "body", core_of, BARE, ("way", (5, 3)))
        self.invalid(InvalidTheory, "unknown", groups, BARE, [self.FINE, ("none", (-1,)), ("way", (-1,))])
        self.invalid(InvalidTheory, "body", groups, BARE, [("goal", ()), ("way", (-1,)), ("none", ())])
        self.invalid(InvalidTheory, "body", groups, BARE, [("way", (-1,)), ("way", (-1,))])

    def test_atoms_of_unknown_relations_belong_to_tasks_with_calls(self):
        task = Task(Signature([("red", 1)], [("goal", 1)]), [], [World(["x"], [])], 2, good=[], bad=[])
        self.invalid(InvalidTheory, "body", core_of, task, ("goal", (2,)))
        self.assertEqual(core_of(task, ("goal", (0, 1))), ("goal", (0,)))
