"""Points 3, 6 to 13, and the interface of fewrules/tasks.py."""

from fewrules.errors import InvalidSignature, InvalidTask
from fewrules.tasks import Signature, Task, atoms_of, is_body, is_example, is_plain
from fewrules.worlds import World
from tests.support import Case, all_rows, many_facts, simple_task

SIX = ["a", "b", "c", "d", "e", "f"]
KNOWN = [("red", 1), ("tie", 2)]


def goals(count, world=0):
    """So many different examples of a relation with two places, in a world with six constants."""
    return [(world, "goal", row) for row in all_rows(SIX, 2)][:count]


def wide_task(**changes):
    """A task with room for many examples."""
    given = {"signature": Signature(KNOWN, [("goal", 2)]), "worlds": [World(SIX, [])]}
    given.update(changes)
    return simple_task(**given)


class SignatureTest(Case):
    def test_attributes_and_copies(self):
        known, unknown = [("red", 1), ("big", 3)], [("goal", 2)]
        signature = Signature(known, unknown)
        known.append(("more", 1))
        unknown.clear()
        self.assertEqual((signature.known, signature.unknown), ([("red", 1), ("big", 3)], [("goal", 2)]))

    def test_numbers_of_relations(self):
        many = [(name, 1) for name in ("p", "q", "r", "s", "t", "u", "v")]
        goals = [(name, 1) for name in ("ga", "gb", "gc", "gd")]
        self.assertEqual(len(Signature(many[:6], goals[:3]).known), 6)
        self.assertEqual(len(Signature(many[:1], goals[:1]).unknown), 1)
        for known, unknown in [([], goals[:1]), (many[:7], goals[:1]), (many[:1], []), (many[:1], goals[:4]), ([], [])]:
            self.invalid(InvalidSignature, "count", Signature, known, unknown)

    def test_name(self):
        for name in ["", "A", "a1", "abcdefghijklm"]:
            self.invalid(InvalidSignature, "name", Signature, [("red", 1), (name, 1)], [("goal", 1)])
            self.invalid(InvalidSignature, "name", Signature, [("red", 1)], [("goal", 1), (name, 1)])
        self.assertEqual(Signature([("abcdefghijkl", 1)], [("g", 1)]).known, [("abcdefghijkl", 1)])

    def test_twice(self):
        self.invalid(InvalidSignature, "twice", Signature, [("red", 1), ("red", 2)], [("goal", 1)])
        self.invalid(InvalidSignature, "twice", Signature, [("red", 1)], [("goal", 1), ("goal", 1)])
        self.invalid(InvalidSignature, "twice", Signature, [("red", 1)], [("red", 2)])

    def test_places(self):
        self.assertEqual(Signature([("red", 1), ("big", 3)], [("goal", 3)]).unknown, [("goal", 3)])
        for places in [0, -1, 4, 999]:
            self.invalid(InvalidSignature, "places", Signature, [("red", 1), ("tie", places)], [("goal", 1)])
            self.invalid(InvalidSignature, "places", Signature, [("red", 1)], [("goal", places)])

    def test_the_first_reason_is_told(self):
        self.invalid(InvalidSignature, "count", Signature, [], [("A", 0), ("A", 0)])
        self.invalid(InvalidSignature, "name", Signature, [("red", 0), ("red", 0)], [("A", 1)])
        self.invalid(InvalidSignature, "twice", Signature, [("red", 0)], [("red", 1)])


class AtomsTest(Case):
    def test_the_atoms_of_known_relations_in_order(self):
        expected = [("red", (0,)), ("red", (1,))] + [("tie", row) for row in [(0, 0), (0, 1), (1, 0), (1, 1)]]
        task = simple_task()
        self.assertEqual(task.atoms, expected)
        self.assertEqual(atoms_of(task), expected)

    def test_those_of_unknown_relations_stand_behind_them_with_calls(self):
        signature = Signature([("tie", 2), ("red", 1)], [("way", 2), ("goal", 1)])
        task = simple_task(signature=signature, calls=True)
        rows = [(0, 0), (0, 1), (1, 0), (1, 1)]
        expected = [("tie", row) for row in rows] + [("red", (0,)), ("red", (1,))]
        expected += [("way", row) for row in rows] + [("goal", (0,)), ("goal", (1,))]
        self.assertEqual(task.atoms, expected)
        self.assertEqual(simple_task(signature=signature).atoms, expected[:6])

    def test_more_places_than_names(self):
        task = simple_task(signature=Signature([("big", 3)], [("goal", 1)]), names=1, worlds=[World(["a"], [])])
        self.assertEqual(task.atoms, [("big", (0, 0, 0))])

    def test_the_list_is_new(self):
        task = simple_task()
        atoms_of(task).clear()
        self.assertEqual(len(atoms_of(task)), 6)

    def test_bodies(self):
        task = simple_task()
        for body in [(), (0,), (5,), (0, 5), (0, 1, 2, 3, 4, 5)]:
            self.assertIs(is_body(task, body), True)
        for body in [(6,), (-1,), (0, 6), (-1, 0), (0, 0), (1, 0), (0, 2, 1), (0, 1, 1), (10**20,)]:
            self.assertIs(is_body(task, body), False)

    def test_plain(self):
        two = Signature(KNOWN, [("goal", 1), ("best", 1)])
        self.assertIs(is_plain(simple_task()), True)
        self.assertIs(is_plain(simple_task(calls=True)), False)
        self.assertIs(is_plain(simple_task(signature=two)), False)
        self.assertIs(is_plain(simple_task(signature=two, calls=True)), False)


class ExampleTest(Case):
    def test_examples(self):
        worlds = [World(["ann", "bob"], []), World(["cid"], [])]
        task = simple_task(signature=Signature(KNOWN, [("goal", 1), ("way", 2)]), worlds=worlds,
                           good=[(0, "goal", ("ann",))])
        for example in [(0, "goal", ("ann",)), (0, "goal", ("bob",)), (1, "goal", ("cid",)), (1, "way", ("cid", "cid")),
                        (0, "way", ("bob", "ann"))]:
            self.assertIs(is_example(task, example), True)
        for example in [(2, "goal", ("ann",)), (-1, "goal", ("cid",)), (0, "goal", ("cid",)), (0, "goal", ()),
                        (0, "goal", ("ann", "bob")), (0, "way", ("ann",)), (0, "red", ("ann",)), (0, "none", ("ann",)),
                        (0, "", ()), (1, "way", ("cid", "bob")), (10**12, "goal", ("ann",))]:
            self.assertIs(is_example(task, example), False)


class TaskTest(Case):
    def test_attributes(self):
        signature = Signature(KNOWN, [("goal", 1)])
        rules = [(("red", (0,)), [("tie", (0, 1))])]
        world = World(["bob", "ann"], [("tie", ("ann", "bob")), ("tie", ("bob", "ann")), ("red", ("ann",))])
        good, bad = [(0, "goal", ("ann",))], [(0, "goal", ("bob",))]
        task = Task(signature, rules, [world], 2, good=good, bad=bad)
        self.assertEqual((task.signature.known, task.signature.unknown), (signature.known, signature.unknown))
        self.assertEqual((task.background, task.names, task.good, task.bad), (rules, 2, good, bad))
        self.assertIs(task.calls, False)
        self.assertEqual(task.worlds[0].constants, ["bob", "ann"])
        ordered = [("red", ("ann",)), ("tie", ("bob", "ann")), ("tie", ("ann", "bob"))]
        self.assertEqual(task.worlds[0].facts, ordered)
        self.assertEqual(task.closed, [[("red", ("bob",)), *ordered]])
        self.assertEqual(world.facts[0], ("tie", ("ann", "bob")))
        self.assertIs(Task(signature, rules, [world], 2, good=[], bad=[], calls=True).calls, True)

    def test_lists_are_copied_with_the_lists_in_them(self):
        rules = [(("red", (0,)), [("tie", (0, 1))])]
        worlds = [World(["ann", "bob"], [("tie", ("ann", "bob"))])]
        good, bad = [(0, "goal", ("ann",))], [(0, "goal", ("bob",))]
        task = simple_task(background=rules, worlds=worlds, good=good, bad=bad)
        rules[0][1].append(("red", (1,)))
        rules.append(rules[0])
        worlds[0].facts.clear()
        worlds[0].constants.append("cid")
        worlds.append(worlds[0])
        good.clear()
        bad.append((0, "goal", ("cid",)))
        self.assertEqual(task.background, [(("red", (0,)), [("tie", (0, 1))])])
        self.assertEqual(len(task.worlds), 1)
        self.assertEqual((task.worlds[0].constants, task.worlds[0].facts), (["ann", "bob"], [("tie", ("ann", "bob"))]))
        self.assertEqual(task.closed, [[("red", ("ann",)), ("tie", ("ann", "bob"))]])
        self.assertEqual((task.good, task.bad), ([(0, "goal", ("ann",))], [(0, "goal", ("bob",))]))

    def test_each_world_has_its_closing(self):
        rules = [(("red", (1,)), [("tie", (0, 1))])]
        worlds = [World(["x", "y"], [("tie", ("y", "x"))]), World(["x"], []), World(["y", "x"], [("tie", ("y", "x"))])]
        task = simple_task(background=rules, worlds=worlds)
        row = [("red", ("x",)), ("tie", ("y", "x"))]
        self.assertEqual(task.closed, [row, [], row])
        self.assertEqual([world.facts for world in task.worlds], [row[1:], [], row[1:]])

    def test_limits(self):
        worlds = [World(SIX, [])] * 5
        self.assertEqual(len(wide_task(worlds=worlds[:4]).worlds), 4)
        self.large("worlds", wide_task, worlds=worlds)
        rules = [(("red", (0,)), [("tie", (0, 1))])] * 21
        self.assertEqual(len(wide_task(background=rules[:20]).background), 20)
        self.large("rules", wide_task, background=rules)
        task = wide_task(good=goals(8), bad=goals(16)[8:])
        self.assertEqual((len(task.good), len(task.bad)), (8, 8))
        self.large("examples", wide_task, good=goals(9))
        self.large("examples", wide_task, bad=goals(9))

    def test_the_first_limit_is_told_ahead_of_all_reasons(self):
        wrong = {"names": 9, "good": [(7, "", ())] * 9}
        rules = [(("none", ()), [])] * 21
        self.large("worlds", wide_task, worlds=[World(SIX, [])] * 5, background=rules, **wrong)
        self.large("rules", wide_task, worlds=[], background=rules, **wrong)
        self.large("examples", wide_task, worlds=[], background=rules[:20], **wrong)

    def test_no_world(self):
        self.invalid(InvalidTask, "worlds", simple_task, worlds=[])

    def test_fact(self):
        fine = World(["a"], [("red", ("a",))])
        for fact in [("goal", ("a",)), ("none", ("a",)), ("red", ("a", "a")), ("tie", ("a",)), ("tie", ("a",) * 4)]:
            self.invalid(InvalidTask, "fact", simple_task, worlds=[fine, World(["a"], [fact])])

    def test_background_rules(self):
        for rule in [
            (("red", (0,)), [("red", (0,))]),
            (("red", (3,)), [("tie", (2, 3))]),
            (("tie", (1, 1)), [("red", (1,)), ("red", (1,)), ("tie", (0, 3))]),
        ]:
            self.assertEqual(simple_task(background=[rule], names=1).background, [rule])

    def test_what_is_no_background_rule(self):
        fine = (("red", (0,)), [("tie", (0, 1))])
        for rule in [
            (("red", (0,)), []),
            (("goal", (0,)), [("red", (0,))]),
            (("red", (0,)), [("goal", (0,))]),
            (("none", (0,)), [("red", (0,))]),
            (("red", (0,)), [("red", (0,)), ("none", (0,))]),
            (("red", (0, 0)), [("red", (0,))]),
            (("red", ()), [("red", (0,))]),
            (("red", (0,)), [("tie", (0,))]),
            (("red", (0,)), [("tie", (0, 1, 2))]),
            (("red", (0,)), [("tie", (0, 4))]),
            (("red", (0,)), [("tie", (-1, 0))]),
            (("red", (4,)), [("red", (4,))]),
            (("red", (-1,)), [("red", (-1,))]),
            (("red", (1,)), [("red", (0,))]),
            (("tie", (0, 2)), [("tie", (0, 1))]),
        ]:
            self.invalid(InvalidTask, "rule", simple_task, background=[fine, rule])

    def test_names(self):
        for names in (1, 4):
            self.assertEqual(simple_task(names=names).names, names)
        for names in (0, -1, 5, 10**9):
            self.invalid(InvalidTask, "names", simple_task, names=names)
        signature = Signature([("red", 1)], [("goal", 1), ("big", 3)])
        worlds = [World(["a"], [])]
        self.assertEqual(simple_task(signature=signature, names=3, worlds=worlds).names, 3)
        self.invalid(InvalidTask, "names", simple_task, signature=signature, names=2, worlds=worlds)

    def test_example(self):
        for example in [(1, "goal", ("ann",)), (-1, "goal", ("ann",)), (0, "red", ("ann",)), (0, "none", ("ann",)),
                        (0, "goal", ()), (0, "goal", ("ann", "bob")), (0, "goal", ("cid",))]:
            self.invalid(InvalidTask, "example", simple_task, good=[example])
            self.invalid(InvalidTask, "example", simple_task, bad=[(0, "goal", ("ann",)), example])

    def test_again(self):
        ann, bob = (0, "goal", ("ann",)), (0, "goal", ("bob",))
        self.assertEqual(simple_task(good=[ann], bad=[bob]).bad, [bob])
        self.invalid(InvalidTask, "again", simple_task, good=[ann, ann])
        self.invalid(InvalidTask, "again", simple_task, bad=[bob, ann, bob])
        self.invalid(InvalidTask, "again", simple_task, good=[ann], bad=[bob, ann])

    def test_the_same_example_in_two_worlds(self):
        task = simple_task(worlds=[World(["ann"], [])] * 2, good=[(0, "goal", ("ann",))], bad=[(1, "goal", ("ann",))])
        self.assertEqual(len(task.good + task.bad), 2)

    def test_numbers_of_atoms(self):
        worlds = [World(["a"], [])]
        known = [("big", 3)]
        task = simple_task(signature=Signature(known, [("goal", 1)]), names=4, worlds=worlds)
        self.assertEqual(len(task.atoms), 64)
        more = Signature([*known, ("red", 1)], [("goal", 1)])
        self.large("atoms", simple_task, signature=more, names=4, worlds=worlds)
        self.assertEqual(len(simple_task(signature=more, names=3, worlds=worlds).atoms), 30)
        mixed = [("big", 3), ("huge", 3), ("tie", 2)]
        self.assertEqual(len(simple_task(signature=Signature(mixed, [("g", 1)]), names=3, worlds=worlds).atoms), 63)
        mixed = Signature([*mixed, ("red", 1)], [("g", 1)])
        self.large("atoms", simple_task, signature=mixed, names=3, worlds=worlds)
        self.large("atoms", simple_task, signature=Signature(known, [("goal", 1)]), names=4, worlds=worlds, calls=True)

    def test_numbers_of_facts_of_a_closing(self):
        signature = Signature([("big", 3), ("copy", 3)], [("goal", 1)])
        rules = [(("copy", (2, 1, 0)), [("big", (0, 1, 2))])]
        fine, more = World(SIX, many_facts(100)), World(SIX, many_facts(101))
        given = {"signature": signature, "background": rules}
        self.assertEqual(len(simple_task(worlds=[fine], **given).closed[0]), 200)
        self.large("facts", simple_task, worlds=[fine, more], **given)
        self.assertEqual(len(simple_task(worlds=[World(SIX, many_facts(200))], signature=signature).closed[0]), 200)

    def test_the_first_reason_is_told(self):
        strange = World(["a"], [("none", ("a",))])
        rule = (("red", (0,)), [])
        twice = [(0, "goal", ("cid",))] * 2
        again = [(0, "goal", ("a",))] * 2
        fine = World(["a"], [])
        wrong = {"background": [rule], "names": 5, "good": twice}
        self.invalid(InvalidTask, "worlds", simple_task, worlds=[], **wrong)
        self.invalid(InvalidTask, "fact", simple_task, worlds=[strange], **wrong)
        self.invalid(InvalidTask, "rule", simple_task, worlds=[fine], **wrong)
        self.invalid(InvalidTask, "names", simple_task, worlds=[fine], names=5, good=twice)
        self.invalid(InvalidTask, "example", simple_task, worlds=[fine], good=again, bad=twice)
        big = Signature([("big", 3), ("copy", 3)], [("goal", 1)])
        rules = [(("copy", (2, 1, 0)), [("big", (0, 1, 2))])]
        full = {"signature": big, "background": rules, "worlds": [World(SIX, many_facts(101))]}
        self.invalid(InvalidTask, "again", simple_task, names=4, good=again, **full)
        self.large("atoms", simple_task, names=4, **full)
        self.large("facts", simple_task, names=3, **full)
