"""Points 10, 22, 23 and 24, and the interface of fewrules/closure.py."""

import copy
import random

from fewrules.closure import accepts_derivation, closing, derivation, is_whole, missing_fact
from fewrules.tasks import Signature
from fewrules.worlds import World
from tests.support import Case, all_rows, many_facts

TIE = Signature([("tie", 2), ("way", 2)], [("near", 1)])
WAYS = [(("way", (0, 1)), [("tie", (0, 1))]), (("way", (0, 2)), [("way", (0, 1)), ("tie", (1, 2))])]
LINE = World(["a", "b", "c"], [("tie", ("a", "b")), ("tie", ("b", "c"))])
TOLD = [
    (("way", ("a", "b")), 0, ("a", "b")),
    (("way", ("b", "c")), 0, ("b", "c")),
    (("way", ("a", "c")), 1, ("a", "b", "c")),
]
SIX = ["a", "b", "c", "d", "e", "f"]


def made(atom, filling):
    return (atom[0], tuple(filling[name] for name in atom[1]))


def naive_given(rules, constants, facts):
    """All tuples (fact, number, filling), rule by rule and filling by filling, by the words of point 22."""
    found = []
    for number, (head, atoms) in enumerate(rules):
        length = max(name for atom in atoms for name in atom[1]) + 1
        for filling in all_rows(constants, length):
            if all(made(atom, filling) in facts for atom in atoms):
                found.append((made(head, filling), number, filling))
    return found


def naive_closing(rules, world):
    facts = set(world.facts)
    while True:
        further = {row[0] for row in naive_given(rules, world.constants, facts)} - facts
        if not further:
            return facts
        facts |= further


def random_case(source):
    """Background rules and a world of the relations p, q and r with 1, 2 and 2 places."""
    constants = SIX[: source.randint(1, 4)]
    source.shuffle(constants)
    relations = [("p", 1), ("q", 2), ("r", 2)]

    def some_atom(names):
        name, places = source.choice(relations)
        return (name, tuple(source.choice(names) for _ in range(places)))

    rules = []
    for _ in range(source.randint(0, 4)):
        atoms = [some_atom(range(4)) for _ in range(source.randint(1, 3))]
        named = sorted({name for atom in atoms for name in atom[1]})
        rules.append((some_atom(named), atoms))
    facts = [some_atom(constants) for _ in range(source.randint(0, 6))]
    return rules, World(constants, list(dict.fromkeys(facts)))


PQR = Signature([("q", 2), ("p", 1), ("r", 2)], [("goal", 1)])


class ExampleTest(Case):
    def test_the_worked_example(self):
        signature = Signature([("tie", 2), ("way", 2)], [("near", 1)])
        rules = [(("way", (0, 1)), [("tie", (0, 1))]), (("way", (0, 2)), [("way", (0, 1)), ("tie", (1, 2))])]
        world = World(["a", "b", "c"], [("tie", ("a", "b")), ("tie", ("b", "c"))])
        expected = [("way", ("a", "b")), ("way", ("a", "c")), ("way", ("b", "c"))]
        self.assertEqual(closing(signature, rules, world)[2:], expected)
        self.assertEqual(missing_fact(rules, world), (("way", ("a", "b")), 0, ("a", "b")))
        told = [(("way", ("a", "b")), 0, ("a", "b")), (("way", ("a", "c")), 1, ("a", "b", "c"))]
        self.assertIs(accepts_derivation(rules, world, told), True)
        self.assertIs(is_whole(rules, world, told), False)


class ClosingTest(Case):
    def test_it_is_in_order(self):
        world = World(["c", "a", "b"], [("way", ("a", "b")), ("tie", ("b", "c")), ("tie", ("a", "b"))])
        expected = [("tie", ("a", "b")), ("tie", ("b", "c"))]
        expected += [("way", ("a", "c")), ("way", ("a", "b")), ("way", ("b", "c"))]
        self.assertEqual(closing(TIE, WAYS, world), expected)

    def test_without_rules_it_has_the_facts_of_the_world(self):
        self.assertEqual(closing(TIE, [], World(["b", "a"], [("tie", ("a", "b")), ("tie", ("b", "a"))])),
                         [("tie", ("b", "a")), ("tie", ("a", "b"))])
        self.assertEqual(closing(TIE, WAYS, World(["a"], [])), [])

    def test_a_name_may_stand_twice_and_numbers_may_be_left_out(self):
        signature = Signature([("p", 1), ("q", 2)], [("goal", 1)])
        rules = [(("p", (1,)), [("q", (1, 1))]), (("q", (3, 1)), [("q", (1, 3)), ("p", (1,))])]
        world = World(["a", "b"], [("q", ("a", "a")), ("q", ("a", "b"))])
        self.assertEqual(closing(signature, rules, world),
                         [("p", ("a",)), ("q", ("a", "a")), ("q", ("a", "b")), ("q", ("b", "a"))])

    def test_it_is_the_least_closed_list(self):
        source = random.Random(1)
        for _ in range(150):
            rules, world = random_case(source)
            found = closing(PQR, rules, world)
            self.assertEqual(len(found), len(set(found)))
            self.assertEqual(set(found), naive_closing(rules, world))

    def test_rules_in_another_order_and_closing_again(self):
        source = random.Random(2)
        for _ in range(60):
            rules, world = random_case(source)
            found = closing(PQR, rules, world)
            self.assertEqual(closing(PQR, rules[::-1], world), found)
            self.assertEqual(closing(PQR, rules, World(world.constants, found[::-1])), found)

    def test_a_world_with_more_facts_has_a_greater_closing(self):
        source = random.Random(3)
        for _ in range(60):
            rules, world = random_case(source)
            fewer = World(world.constants, world.facts[1:])
            self.assertLessEqual(set(closing(PQR, rules, fewer)), set(closing(PQR, rules, world)))

    def test_exactly_200_facts_and_more(self):
        signature = Signature([("big", 3), ("copy", 3)], [("goal", 1)])
        rules = [(("copy", (2, 1, 0)), [("big", (0, 1, 2))])]
        found = closing(signature, rules, World(SIX, many_facts(100)))
        self.assertEqual((len(found), len(set(found))), (200, 200))
        for call in (lambda world: closing(signature, rules, world), lambda world: derivation(rules, world)):
            self.large("facts", call, World(SIX, many_facts(101)))
            self.large("facts", call, World(SIX, many_facts(200)))
        self.assertEqual(len(derivation(rules, World(SIX, many_facts(100)))), 100)
        self.assertEqual(len(closing(signature, [], World(SIX, many_facts(200)))), 200)
        odd = World(SIX, many_facts(100) + [("copy", ("f", "f", "f"))])
        self.large("facts", closing, signature, rules, odd)

    def test_a_long_chain_of_steps(self):
        signature = Signature([("next", 2), ("seen", 1)], [("goal", 1)])
        world = World(SIX, [("next", pair) for pair in zip(SIX, SIX[1:])] + [("seen", ("f",))])
        rules = [(("seen", (0,)), [("seen", (1,)), ("next", (0, 1))])]
        self.assertEqual(closing(signature, rules, world)[5:], [("seen", (name,)) for name in SIX])

    def test_what_is_passed_stays_and_what_is_returned_is_new(self):
        rules = copy.deepcopy(WAYS)
        world = World(LINE.constants, LINE.facts[::-1])
        told = list(TOLD)
        closing(TIE, rules, world).append(None)
        derivation(rules, world).append(None)
        missing_fact(rules, world)
        accepts_derivation(rules, world, told)
        is_whole(rules, world, told)
        self.assertEqual((rules, told), (WAYS, TOLD))
        self.assertEqual((world.constants, world.facts), (LINE.constants, LINE.facts[::-1]))
        self.assertEqual(len(closing(TIE, rules, world)), 5)
        self.assertEqual(len(derivation(rules, world)), 3)
        self.assertEqual((TIE.known, TIE.unknown), ([("tie", 2), ("way", 2)], [("near", 1)]))


class MissingTest(Case):
    def test_none_if_closed(self):
        self.assertIsNone(missing_fact([], LINE))
        self.assertIsNone(missing_fact(WAYS, World(["a"], [])))
        self.assertIsNone(missing_fact(WAYS, World(LINE.constants, closing(TIE, WAYS, LINE))))

    def test_the_first_rule_comes_first(self):
        self.assertEqual(missing_fact(WAYS[::-1], LINE), (("way", ("a", "b")), 1, ("a", "b")))

    def test_the_order_of_the_world_counts(self):
        world = World(["c", "b", "a"], LINE.facts)
        self.assertEqual(missing_fact(WAYS, world), (("way", ("b", "c")), 0, ("b", "c")))

    def test_the_filling_has_a_constant_for_each_number(self):
        rules = [(("p", (3,)), [("q", (1, 3))])]
        world = World(["c", "a", "b"], [("q", ("b", "a"))])
        self.assertEqual(missing_fact(rules, world), (("p", ("a",)), 0, ("c", "b", "c", "a")))

    def test_the_first_filling_in_all_cases(self):
        source = random.Random(4)
        for _ in range(150):
            rules, world = random_case(source)
            given = naive_given(rules, world.constants, set(world.facts))
            further = [row for row in given if row[0] not in world.facts]
            self.assertEqual(missing_fact(rules, world), further[0] if further else None)


class DerivationTest(Case):
    def test_the_one_that_is_returned_is_whole(self):
        source = random.Random(5)
        for _ in range(100):
            rules, world = random_case(source)
            told = derivation(rules, world)
            self.assertIs(is_whole(rules, world, told), True)
            self.assertEqual({row[0] for row in told}, naive_closing(rules, world) - set(world.facts))
            for at in range(len(told)):
                self.assertIs(accepts_derivation(rules, world, told[:at]), True)
                self.assertIs(is_whole(rules, world, told[:at]), False)

    def test_the_empty_list(self):
        self.assertIs(accepts_derivation(WAYS, LINE, []), True)
        self.assertIs(is_whole(WAYS, LINE, []), False)
        self.assertIs(is_whole([], LINE, []), True)
        self.assertIs(is_whole(WAYS, World(["a"], []), []), True)

    def test_left_out(self):
        self.assertIs(is_whole(WAYS, LINE, TOLD), True)
        for at in (0, 1, 2):
            told = TOLD[:at] + TOLD[at + 1 :]
            self.assertIs(accepts_derivation(WAYS, LINE, told), at != 0)
            self.assertIs(is_whole(WAYS, LINE, told), False)

    def test_moved(self):
        self.assertIs(is_whole(WAYS, LINE, [TOLD[1], TOLD[0], TOLD[2]]), True)
        self.assertIs(is_whole(WAYS, LINE, [TOLD[0], TOLD[2], TOLD[1]]), True)
        self.assertIs(accepts_derivation(WAYS, LINE, [TOLD[2], TOLD[0], TOLD[1]]), False)
        self.assertIs(is_whole(WAYS, LINE, [TOLD[2], TOLD[0], TOLD[1]]), False)

    def test_put_in_twice(self):
        for at in range(3):
            self.assertIs(accepts_derivation(WAYS, LINE, TOLD + [TOLD[at]]), False)
            self.assertIs(is_whole(WAYS, LINE, TOLD + [TOLD[at]]), False)

    def test_a_fact_of_the_world(self):
        rules = [(("tie", (0, 1)), [("tie", (0, 1))])]
        told = [(("tie", ("a", "b")), 0, ("a", "b"))]
        self.assertIs(accepts_derivation(rules, LINE, told), False)
        self.assertIs(is_whole(rules, LINE, told), False)

    def changed(self, fact=("way", ("a", "b")), number=0, filling=("a", "b")):
        told = [(fact, number, filling), *TOLD[1:]]
        self.assertIs(is_whole(WAYS, LINE, told), accepts_derivation(WAYS, LINE, told))
        return accepts_derivation(WAYS, LINE, told)

    def test_another_fact(self):
        self.assertIs(self.changed(), True)
        for fact in [("way", ("b", "a")), ("way", ("a",)), ("way", ("a", "b", "a")), ("way", ()), ("tie", ("a", "b")),
                     ("near", ("a",)), ("", ()), ("No name", ("x", "y")), ("way", ("x", "y"))]:
            self.assertIs(self.changed(fact=fact), False)

    def test_another_number(self):
        for number in [1, 2, -1, -2, 100, -100]:
            self.assertIs(self.changed(number=number), False)

    def test_another_filling(self):
        for filling in [(), ("a",), ("a", "b", "c"), ("a", "b", "a"), ("b", "a"), ("b", "c"), ("a", "x"), ("x", "y"),
                        ("", ""), ("a",) * 20]:
            self.assertIs(self.changed(filling=filling), False)

    def test_a_filling_with_a_strange_constant_at_a_number_that_is_no_name(self):
        rules = [(("p", (1,)), [("q", (1, 1))])]
        world = World(["a"], [("q", ("a", "a"))])
        self.assertIs(accepts_derivation(rules, world, [(("p", ("a",)), 0, ("a", "a"))]), True)
        self.assertIs(accepts_derivation(rules, world, [(("p", ("a",)), 0, ("b", "a"))]), False)

    def test_without_rules(self):
        self.assertIs(accepts_derivation([], LINE, TOLD), False)
        self.assertIs(accepts_derivation([], LINE, [(("way", ("a", "b")), -1, ())]), False)

    def test_more_facts_than_a_closing_may_have(self):
        rules = [(("copy", (0, 1, 2)), [("big", (0, 1, 2))])]
        world = World(SIX, many_facts(200))
        told = [(("copy", row), 0, row) for _, row in many_facts(200)]
        self.assertIs(is_whole(rules, world, told), True)
        self.assertIs(is_whole(rules, world, told[1:]), False)
        self.assertIs(accepts_derivation(rules, world, told[1:]), True)
        self.assertEqual(missing_fact(rules, world), told[0])
