"""The whole program: whatever a judge accepts shows what it is said to show (point 2), and results are no one else's."""

import copy
import random

from fewrules.alike import accepts_parting, is_general, parting
from fewrules.boxes import accepts_refutation, accepts_tree, boxes_of, chart, search
from fewrules.calls import accepts_stages, is_closed, least_set, stages_of
from fewrules.clashes import clashes, diagnosis, judge_diagnosis, mends
from fewrules.closure import accepts_derivation, closing, derivation, is_whole
from fewrules.colours import colour_tree, judge_colours, least_colouring
from fewrules.edges import fits
from fewrules.folds import accepts_fold, fold_of
from fewrules.lots import hard_lots, is_easy, judge_lots, lot_paper
from fewrules.marbles import is_kept, is_keeping, keeping_list
from fewrules.programs import accepts_paper, first_kept, made_program, paper, program_fits
from fewrules.ranges import accepts_saying, count_fitting, edge_theories, fitting_at, says
from fewrules.tables import judge_table, none_table
from fewrules.texts import read_task, write_task
from fewrules.theories import judge_refusal, judge_theory, refusal, theory
from tests.plain_support import (
    all_bodies, naive_colourings, naive_fitting, naive_hard_lots, naive_theories_fit, some_task, unary_task,
)
from tests.slots_support import in_box, naive_fitting as naive_for_slots, naive_word, small_task
from tests.support import Case
from tests.test_clashes import naive_clashes, naive_mends
from tests.test_marbles import naive_list
from tests.test_marbles import some_task as some_helper_task


def mangled(source, told):
    """A certificate with something in it left out, doubled, exchanged or changed."""
    if isinstance(told, (list, tuple)) and told and source.random() < 0.8:
        at = source.randrange(len(told))
        changed = list(told)
        changed[at] = mangled(source, told[at])
        return changed if isinstance(told, list) else tuple(changed)
    if isinstance(told, list):
        return source.choice([told[1:], told[:-1], told * 2, told[::-1]])
    if isinstance(told, tuple):
        return told
    if isinstance(told, int):
        return told + source.choice([-1, 1])
    return told


class ShownTest(Case):
    """Changed certificates of all kinds: what is still accepted shows what is true."""

    def setUp(self):
        self.source = random.Random(350)

    def many(self, told):
        for _ in range(12):
            changed = told
            for _ in range(self.source.randint(1, 3)):
                changed = mangled(self.source, changed)
            yield changed

    def plain_task(self, at):
        return some_task(self.source, most=3) if at % 2 else unary_task(self.source, 3, 3)

    def test_fitting_bodies_and_tables_of_none(self):
        for at in range(40):
            task = self.plain_task(at)
            fitting = naive_fitting(task)
            for body in self.source.sample(all_bodies(task), min(8, len(all_bodies(task)))):
                self.assertIs(fits(task, body), body in fitting)
            hard = naive_hard_lots(task)
            for lot in hard:
                told = none_table(task, lot)
                self.assertIs(judge_table(task, lot, told), True)
                for changed in self.many(told):
                    for other in [(one,) for one in range(len(task.good))]:
                        if judge_table(task, other, changed):
                            self.assertIs(is_easy(task, other), False)

    def test_papers_of_lots(self):
        for at in range(40):
            task = self.plain_task(at)
            told = lot_paper(task)
            self.assertIs(judge_lots(task, told), True)
            for changed in self.many(told):
                if self.is_paper(changed) and judge_lots(task, changed):
                    for lot, _ in changed:
                        self.assertEqual(naive_fitting(task, lot), [])

    def is_paper(self, told):
        return all(len(row) == 2 and len(row[1]) == 2 for row in told)

    def test_theories_and_refusals(self):
        for at in range(40):
            task = self.plain_task(at)
            k = self.source.randint(0, 2)
            rules, told = theory(task, k), refusal(task, k)
            self.assertEqual((rules is None, told is None), (not naive_theories_fit(task, k), told is None))
            self.assertIs((rules is None) != (told is None), True)
            if rules is not None:
                self.assertIs(judge_theory(task, rules), True)
            for other in range(4):
                if told is not None and judge_refusal(task, other, told):
                    self.assertIs(naive_theories_fit(task, other), False)

    def test_colour_trees(self):
        for _ in range(60):
            count, k = self.source.randint(0, 5), self.source.randint(0, 3)
            lots = [tuple(sorted(self.source.sample(range(count), self.source.randint(1, 2)))) for _ in range(count)
                    if count > 1]
            told = colour_tree(count, lots, k)
            self.assertEqual(told is None, bool(naive_colourings(count, lots, k)))
            self.assertEqual(told is None, least_colouring(count, lots, k) is not None)
            if told is not None:
                for other in range(4):
                    if judge_colours(count, lots, other, told):
                        self.assertEqual(naive_colourings(count, lots, other), [])

    def test_trees_of_boxes(self):
        accepted = 0
        for at in range(40):
            task, slots = small_task(self.source, calls=at % 3 != 0)
            fitting = naive_for_slots(task, slots)
            for told in (chart(task, slots), search(task, slots)[1]):
                if isinstance(told, list):
                    self.assertIn(told, fitting)
                    continue
                for changed in [told, *self.many(told)]:
                    if accepts_tree(task, slots, changed):
                        accepted += 1
                        boxes = boxes_of(task, slots, changed)
                        for one in fitting:
                            self.assertEqual(sum(in_box(task, one, box) for box in boxes), 1)
                        self.assertEqual(sum(2 ** sum(len(may) - len(must) for must, may in box) for box in boxes),
                                         len(fitting))
                        self.assertIs(accepts_refutation(task, slots, changed), not fitting)
        self.assertGreater(accepted, 60)

    def test_sayings(self):
        for at in range(40):
            task, slots = small_task(self.source, calls=at % 3 != 0)
            pool = [(number, name, (constant,)) for number, world in enumerate(task.worlds)
                    for constant in world.constants for name, places in task.signature.unknown if places == 1]
            pool = [one for one in pool if one not in task.good + task.bad]
            if not pool or not naive_for_slots(task, slots):
                continue
            asked = self.source.choice(pool)
            told = says(task, slots, asked)
            self.assertEqual(told[0], naive_word(task, slots, asked))
            for word in ("sure", "never"):
                if told[0] != "open" and accepts_saying(task, slots, asked, (word, told[1])):
                    self.assertEqual(word, told[0])

    def test_stages_and_derivations(self):
        for at in range(30):
            task, slots = small_task(self.source, calls=True)
            rules = [(name, tuple(sorted(self.source.sample(range(len(task.atoms)), 1)))) for name in slots]
            facts = least_set(task, rules, 0)
            for changed in self.many(stages_of(task, rules, 0)):
                if accepts_stages(task, rules, 0, changed):
                    self.assertLessEqual({step[0] for step in changed}, set(facts))
                    if is_closed(task, rules, 0, [step[0] for step in changed]):
                        self.assertEqual({step[0] for step in changed}, set(facts))
            plain = self.plain_task(1)
            world = plain.worlds[0]
            for changed in self.many(derivation(plain.background, world)):
                if accepts_derivation(plain.background, world, changed):
                    told = set(world.facts) | {step[0] for step in changed}
                    self.assertLessEqual(told, set(plain.closed[0]))
                    if is_whole(plain.background, world, changed):
                        self.assertEqual(told, set(plain.closed[0]))

    def test_keeping_lists_and_papers(self):
        for _ in range(40):
            task = some_helper_task(self.source, names=self.source.choice([1, 2]))
            greatest = naive_list(task, 0, 0)
            for changed in self.many(keeping_list(task, 0, 0)):
                if all(len(pair) == 2 for pair in changed) and is_keeping(task, 0, 0, changed):
                    self.assertLessEqual(set(changed), set(greatest))
            told = paper(task)
            self.assertIs(accepts_paper(task, told), True)
            if told[0] == "kept":
                self.assertIs(is_kept(task, told[1], told[2]), True)
                self.assertIsNone(made_program(task))
            else:
                self.assertIs(program_fits(task, told[1]), True)
                self.assertIsNone(first_kept(task))

    def test_diagnoses(self):
        for at in range(25):
            task = self.plain_task(at)
            k = self.source.randint(0, 2)
            told = diagnosis(task, k)
            for other in range(4):
                if judge_diagnosis(task, other, told):
                    self.assertEqual([row[0] for row in told[0]], naive_clashes(task, other))
                    self.assertEqual([row[0] for row in told[1]], naive_mends(task, other))
            self.assertIs(judge_diagnosis(task, k, told), True)

    def test_folds_and_partings(self):
        task = read_task("known tie 2\nunknown way 1\nnames 2\nrule tie(b,a) if tie(a,b)\nworld x\n")
        rules = [("way", body) for body in all_bodies(task)]
        for rule in rules:
            for other in rules:
                fold, told = fold_of(task, rule, other), parting(task, other, rule)
                self.assertEqual((fold is None, told is None), (told is not None, fold is not None))
                self.assertIs(is_general(task, rule, other), fold is not None)
                if fold is None:
                    self.assertIs(accepts_parting(task, other, rule, told), True)
                    self.assertFalse(any(accepts_fold(task, rule, other, (0, name)) for name in range(2)))
                else:
                    self.assertIs(accepts_fold(task, rule, other, fold), True)


class OwnerTest(Case):
    """Points 3 and 5: calls with equal arguments give equal results, whoever has changed the earlier ones."""

    def spoilt(self, told):
        """Change all lists in a result."""
        if isinstance(told, (list, tuple)):
            for part in told:
                self.spoilt(part)
        if isinstance(told, list):
            told.reverse()
            told.append("x")

    def test_results_that_were_changed(self):
        source = random.Random(351)
        for at in range(15):
            plain = some_task(source, most=3) if at % 2 else unary_task(source, 3, 3)
            task, slots = small_task(source, calls=True)
            helper = some_helper_task(source, names=2)
            calls = [
                lambda: hard_lots(plain), lambda: lot_paper(plain), lambda: theory(plain, 1), lambda: refusal(plain, 1),
                lambda: clashes(plain, 1), lambda: mends(plain, 1), lambda: diagnosis(plain, 1),
                lambda: chart(task, slots), lambda: search(task, slots), lambda: edge_theories(task, slots),
                lambda: fitting_at(task, slots, 0), lambda: count_fitting(task, slots),
                lambda: boxes_of(task, slots, chart(task, slots)), lambda: paper(helper), lambda: made_program(helper),
                lambda: keeping_list(helper, 0, 0), lambda: least_set(task, [], 0),
                lambda: closing(plain.signature, plain.background, plain.worlds[0]),
            ]
            texts = [write_task(one) for one in (plain, task, helper)]
            for call in calls:
                first = call()
                kept = copy.deepcopy(first)
                self.spoilt(first)
                self.assertEqual(call(), kept)
            self.assertEqual([write_task(one) for one in (plain, task, helper)], texts)
            for one in (plain, task, helper):
                again = read_task(write_task(one))
                self.assertEqual((again.closed, again.atoms), (one.closed, one.atoms))
