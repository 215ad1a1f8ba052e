"""Points 3 and 7, and the interface of fewrules/worlds.py."""

from fewrules.errors import InvalidWorld
from fewrules.tasks import Signature
from fewrules.worlds import World, facts_in_order
from tests.support import Case, many_facts

SIX = ["a", "b", "c", "d", "e", "f"]


class WorldTest(Case):
    def test_facts_stand_as_they_were_given(self):
        facts = [("tie", ("bob", "ann")), ("red", ("bob",)), ("tie", ("ann", "ann"))]
        world = World(["bob", "ann"], facts)
        self.assertEqual(world.constants, ["bob", "ann"])
        self.assertEqual(world.facts, facts)

    def test_no_facts_and_one_constant(self):
        world = World(["a"], [])
        self.assertEqual((world.constants, world.facts), (["a"], []))

    def test_lists_are_copied(self):
        constants = ["a", "b"]
        facts = [("red", ("a",))]
        world = World(constants, facts)
        constants.append("c")
        facts.append(("red", ("b",)))
        self.assertEqual((world.constants, world.facts), (["a", "b"], [("red", ("a",))]))

    def test_what_is_passed_stays(self):
        constants = ["b", "a"]
        facts = [("red", ("b",)), ("red", ("a",))]
        World(constants, facts)
        self.assertEqual((constants, facts), (["b", "a"], [("red", ("b",)), ("red", ("a",))]))

    def test_numbers_of_facts(self):
        self.assertEqual(len(World(SIX, many_facts(200)).facts), 200)
        self.large("facts", World, SIX, many_facts(201))

    def test_too_many_facts_come_first(self):
        self.large("facts", World, [], many_facts(201))
        self.large("facts", World, ["a"], [("red", ("a",))] * 201)

    def test_constants(self):
        self.assertEqual(World(SIX, []).constants, SIX)
        self.invalid(InvalidWorld, "constants", World, [], [])
        self.invalid(InvalidWorld, "constants", World, [*SIX, "g"], [])

    def test_name(self):
        for name in ["", "A", "a1", "abcdefghijklm", "a b"]:
            self.invalid(InvalidWorld, "name", World, ["a", name], [])

    def test_twice(self):
        self.invalid(InvalidWorld, "twice", World, ["a", "b", "a"], [])

    def test_fact(self):
        self.invalid(InvalidWorld, "fact", World, ["a"], [("red", ())])
        self.invalid(InvalidWorld, "fact", World, ["a"], [("red", ("b",))])
        self.invalid(InvalidWorld, "fact", World, ["a"], [("tie", ("a", "b"))])

    def test_again(self):
        self.invalid(InvalidWorld, "again", World, ["a"], [("red", ("a",)), ("tie", ("a", "a")), ("red", ("a",))])

    def test_which_relations_there_are_is_not_asked(self):
        facts = [("red", ("a",)), ("red", ("a", "a")), ("big", ("a",) * 5), ("No name", ("a",))]
        self.assertEqual(World(["a"], facts).facts, facts)

    def test_the_first_reason_is_told(self):
        again = [("red", ("x",)), ("red", ("x",))]
        self.invalid(InvalidWorld, "constants", World, ["A"] * 7, again)
        self.invalid(InvalidWorld, "name", World, ["A", "A"], again)
        self.invalid(InvalidWorld, "twice", World, ["a", "a"], again)
        self.invalid(InvalidWorld, "fact", World, ["a"], again)
        self.invalid(InvalidWorld, "fact", World, ["a"], [("red", ("a",)), ("red", ("a",)), ("red", ("x",))])
        self.invalid(InvalidWorld, "again", World, ["x"], again)


class OrderTest(Case):
    def test_known_relations_first_then_constants_in_the_order_of_the_world(self):
        signature = Signature([("tie", 2), ("red", 1)], [("goal", 1), ("best", 1)])
        facts = [
            ("best", ("bob",)), ("goal", ("ann",)), ("goal", ("bob",)), ("red", ("ann",)), ("red", ("bob",)),
            ("tie", ("ann", "bob")), ("tie", ("ann", "ann")), ("tie", ("bob", "ann")),
        ]
        expected = [
            ("tie", ("bob", "ann")), ("tie", ("ann", "bob")), ("tie", ("ann", "ann")), ("red", ("bob",)),
            ("red", ("ann",)), ("goal", ("bob",)), ("goal", ("ann",)), ("best", ("bob",)),
        ]
        self.assertEqual(facts_in_order(signature, ["bob", "ann"], facts), expected)
