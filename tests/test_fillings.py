"""Points 14, 15 and 16, and the interface of fewrules/fillings.py."""

import random

from fewrules.errors import InvalidBody, UnknownExample
from fewrules.fillings import covers, fillings, set_of, sets_of
from fewrules.tasks import Signature, Task, atoms_of
from fewrules.worlds import World
from tests.support import Case, all_rows, simple_task

ANN = (0, "goal", ("ann",))
STRANGE = [
    (1, "goal", ("ann",)), (-1, "goal", ("ann",)), (0, "red", ("ann",)), (0, "none", ("ann",)), (0, "goal", ()),
    (0, "goal", ("ann", "bob")), (0, "goal", ("cid",)), (0, "", ("ann",)),
]


def naive_set(task, world, filling):
    facts = task.closed[world]
    made = [(name, tuple(filling[k] for k in row)) for name, row in task.atoms]
    return tuple(number for number, fact in enumerate(made) if fact in facts)


def naive_sets(task, example):
    rows = [(naive_set(task, example[0], filling), filling) for filling in fillings(task, example)]
    bodies = sorted({row[0] for row in rows})
    greatest = [body for body in bodies if not any(set(body) < set(other) for other in bodies)]
    return [(body, next(row[1] for row in rows if row[0] == body)) for body in greatest]


def random_task(source, places, names, calls=False):
    relations = [("p", 1), ("q", 2)]
    worlds = []
    for _ in range(source.randint(1, 2)):
        constants = ["d", "a", "c", "b"][: source.randint(1, 4)]
        facts = [(name, row) for name, size in relations for row in all_rows(constants, size) if source.random() < 0.4]
        source.shuffle(facts)
        worlds.append(World(constants, facts))
    rules = [(("p", (1,)), [("q", (0, 1)), ("p", (0,))])] if source.random() < 0.5 else []
    return Task(Signature(relations, [("goal", places)]), rules, worlds, names, good=[], bad=[], calls=calls)


class WorkedTest(Case):
    def test_the_worked_example(self):
        world = World(["ann", "bob"], [("tie", ("ann", "bob")), ("red", ("bob",))])
        signature = Signature([("red", 1), ("tie", 2)], [("goal", 1)])
        task = Task(signature, [], [world], 2, good=[(0, "goal", ("ann",))], bad=[])
        self.assertEqual(atoms_of(task)[:3], [("red", (0,)), ("red", (1,)), ("tie", (0, 0))])
        self.assertEqual(sets_of(task, (0, "goal", ("ann",))), [((1, 3), ("ann", "bob"))])
        self.assertEqual(covers(task, (3,), (0, "goal", ("ann",))), ("ann", "bob"))
        self.assertIsNone(covers(task, (0,), (0, "goal", ("ann",))))


class FillingsTest(Case):
    def test_they_begin_with_the_example_in_the_order_of_the_world(self):
        task = simple_task(worlds=[World(["bob", "ann"], [])], names=3)
        expected = [("ann", *row) for row in [("bob", "bob"), ("bob", "ann"), ("ann", "bob"), ("ann", "ann")]]
        self.assertEqual(fillings(task, ANN), expected)

    def test_numbers_of_names_and_places(self):
        constants = ["a", "b", "c", "d", "e", "f"]
        for places in (1, 2, 3):
            for names in range(places, 5):
                task = simple_task(signature=Signature([("p", 1)], [("goal", places)]), names=names,
                                   worlds=[World(constants, [])])
                row = ("c", "c", "a")[:places]
                expected = [row + rest for rest in all_rows(constants, names - places)]
                self.assertEqual(fillings(task, (0, "goal", row)), expected)

    def test_the_world_of_the_example_is_taken(self):
        task = simple_task(worlds=[World(["a"], []), World(["c", "b"], [])])
        self.assertEqual(fillings(task, (1, "goal", ("b",))), [("b", "c"), ("b", "b")])

    def test_an_example_need_not_be_one_of_the_task(self):
        self.assertEqual(fillings(simple_task(good=[ANN]), (0, "goal", ("bob",))), [("bob", "ann"), ("bob", "bob")])

    def test_examples_that_are_none(self):
        task = simple_task()
        for example in STRANGE:
            told = {"example": example}
            self.raises(UnknownExample, told, fillings, task, example)
            self.raises(UnknownExample, told, sets_of, task, example)
            self.raises(UnknownExample, told, covers, task, (), example)


class SetsTest(Case):
    def test_the_set_of_a_filling(self):
        task = simple_task()
        self.assertEqual(set_of(task, 0, ("ann", "bob")), (1, 3))
        self.assertEqual(set_of(task, 0, ("bob", "ann")), (0, 4))
        self.assertEqual(set_of(task, 0, ("bob", "bob")), (0, 1))
        self.assertEqual(set_of(task, 0, ("ann", "ann")), ())

    def test_closed_facts_count(self):
        task = simple_task(background=[(("red", (0,)), [("tie", (0, 1))])])
        self.assertEqual(set_of(task, 0, ("ann", "bob")), (0, 1, 3))

    def test_the_set_has_atoms_of_known_relations_alone(self):
        task = simple_task(calls=True, good=[ANN])
        self.assertEqual(set_of(task, 0, ("ann", "bob")), (1, 3))
        self.assertEqual(sets_of(task, ANN), [((1, 3), ("ann", "bob"))])

    def test_the_world_is_given_by_its_number(self):
        task = simple_task(worlds=[World(["ann"], []), World(["ann"], [("red", ("ann",))])])
        self.assertEqual((set_of(task, 0, ("ann", "ann")), set_of(task, 1, ("ann", "ann"))), ((), (0, 1)))

    def test_the_first_filling_and_the_order_of_the_sets(self):
        world = World(["b", "a", "c"], [("tie", ("a", "b")), ("tie", ("a", "c")), ("red", ("a",))])
        task = simple_task(worlds=[world])
        self.assertEqual(sets_of(task, (0, "goal", ("a",))), [((0, 1), ("a", "a")), ((0, 3), ("a", "b"))])
        self.assertEqual(sets_of(task, (0, "goal", ("c",))), [((1, 4), ("c", "a"))])

    def test_no_facts(self):
        task = simple_task(worlds=[World(["ann", "bob"], [])])
        self.assertEqual(sets_of(task, ANN), [((), ("ann", "ann"))])

    def test_all_cases(self):
        source = random.Random(6)
        for _ in range(60):
            places = source.randint(1, 2)
            task = random_task(source, places, source.randint(places, 3), source.random() < 0.3)
            example = (0, "goal", tuple(source.choice(task.worlds[0].constants) for _ in range(places)))
            for filling in fillings(task, example):
                self.assertEqual(set_of(task, 0, filling), naive_set(task, 0, filling))
            self.assertEqual(sets_of(task, example), naive_sets(task, example))

    def test_lists_that_are_returned_are_new(self):
        task = simple_task()
        fillings(task, ANN).clear()
        sets_of(task, ANN).clear()
        self.assertEqual((len(fillings(task, ANN)), len(sets_of(task, ANN))), (2, 1))


class CoversTest(Case):
    def test_the_first_filling(self):
        world = World(["c", "b", "a"], [("tie", ("a", "b")), ("tie", ("a", "a"))])
        task = simple_task(worlds=[world], names=3)
        tie = task.atoms.index(("tie", (0, 2)))
        self.assertEqual(covers(task, (tie,), (0, "goal", ("a",))), ("a", "c", "b"))
        self.assertEqual(covers(task, (), (0, "goal", ("b",))), ("b", "c", "c"))
        self.assertIsNone(covers(task, (tie,), (0, "goal", ("c",))))

    def test_bodies_that_are_none(self):
        task = simple_task()
        for body in [(6,), (-1,), (1, 0), (0, 0), (0, 1, 2, 3, 4, 5, 6)]:
            self.invalid(InvalidBody, "body", covers, task, body, ANN)

    def test_the_example_is_looked_at_first(self):
        example = (0, "goal", ("cid",))
        self.raises(UnknownExample, {"example": example}, covers, simple_task(), (6,), example)

    def test_atoms_of_unknown_relations_are_in_no_set(self):
        task = simple_task(calls=True)
        self.assertIsNone(covers(task, (6,), ANN))
        self.assertIsNone(covers(task, (3, 6), ANN))
        self.assertEqual(covers(task, (3,), ANN), ("ann", "bob"))

    def test_all_cases(self):
        source = random.Random(7)
        for _ in range(60):
            task = random_task(source, 1, 3)
            example = (0, "goal", (source.choice(task.worlds[0].constants),))
            for _ in range(20):
                body = tuple(sorted(source.sample(range(len(task.atoms)), source.randint(0, 3))))
                having = [row for row in fillings(task, example) if set(body) <= set(set_of(task, 0, row))]
                self.assertEqual(covers(task, body, example), having[0] if having else None)
                within = any(set(body) <= set(row[0]) for row in sets_of(task, example))
                self.assertIs(covers(task, body, example) is not None, within)
