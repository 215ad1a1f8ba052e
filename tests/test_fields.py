"""What the functions for lots share: fields, hunts and kin. Both ways to look for a body must tell the same."""

import random
from unittest import mock

from fewrules import fields
from fewrules.fields import field_of, field_with
from fewrules.hunt import Hunt
from fewrules.kin import Kin
from fewrules.lots import least_hard
from fewrules.parts import greatest_among, mask_of, members_of
from fewrules.plain import set_masks
from fewrules.says import candidates, with_example
from fewrules.tasks import Signature, Task
from fewrules.worlds import World
from tests.plain_support import all_parts, greatest_ones, is_covered, naive_hard_lots, naive_sets, some_task
from tests.support import Case, all_rows


def some_large_task(source):
    """A task with more atoms than all bodies can be gone through for: up to three names that are not of the head."""
    known = source.choice([[("tie", 2), ("own", 2)], [("big", 3)], [("red", 1), ("tie", 2), ("own", 2)]])
    names, places = source.choice([(4, 1), (4, 2), (3, 1)])
    constants = ["ann", "bob", "cid", "dan"][:4 if names == 3 else 3]
    likely = source.choice([0.3, 0.5, 0.7])
    worlds = []
    for _ in range(2):
        rows = [(name, row) for name, many in known for row in all_rows(constants, many)]
        rows = [(name, row) for name, row in rows if len(row) == 1 or len(set(row)) > 1]
        worlds.append(World(constants, [fact for fact in rows if source.random() < likely]))
    pool = [(at, "goal", row) for at in range(2) for row in all_rows(constants, places)]
    source.shuffle(pool)
    signature = Signature(known, [("goal", places)])
    return Task(signature, [], worlds, names, good=pool[:3], bad=pool[3:3 + source.randint(1, 2)])


def work(meets, steps):
    """Other work at first for the two ways to look for a body; 0 leaves a way out."""
    return mock.patch.multiple(fields, FIRST_MEETS=meets, FIRST_STEPS=steps)


def hunts_alone():
    return work(0, 150)


def short_hunts_alone():
    return work(0, 1)


def levels_alone():
    return work(1000, 0)


def cut_levels_alone():
    return work(7, 0)


WAYS = (hunts_alone, short_hunts_alone, levels_alone, cut_levels_alone)


def naive_level(task, lot):
    """The greatest meets for a lot that are in no set of a bad example, by the words of point 36."""
    bads = [mask_of(row) for one in task.bad for row in naive_sets(task, one)]
    found = {mask_of(range(len(task.atoms)))}
    for at in lot:
        sets = [mask_of(row) for row in naive_sets(task, task.good[at])]
        found = {mask & other for mask in found for other in sets}
        found = {mask for mask in found if not any(mask & bad == mask for bad in bads)}
        found = {mask_of(row) for row in greatest_ones([members_of(mask) for mask in found])}
    found = {mask for mask in found if not any(mask & bad == mask for bad in bads)}
    return greatest_ones([members_of(mask) for mask in found])


def fits_for(task, lot, body):
    """Whether the mask is that of a body that covers the examples of the lot and no bad one."""
    row = members_of(body)
    if any(is_covered(task, row, one) for one in task.bad):
        return False
    return all(is_covered(task, row, task.good[at]) for at in lot)


class FieldTest(Case):
    def looked_through(self, task, field):
        """The field tells for each lot a body that fits, exactly if there is one."""
        for lot in all_parts(range(len(task.good))):
            body = field.body_for(mask_of(lot))
            if naive_level(task, lot):
                self.assertIsNotNone(body)
                self.assertTrue(fits_for(task, lot, body))
            else:
                self.assertIsNone(body)

    def test_all_lots_of_small_tasks(self):
        source = random.Random(110)
        for _ in range(60):
            task = some_task(source)
            for way in WAYS:
                with way():
                    self.looked_through(task, field_of(task))
                    self.assertEqual(least_hard(field_of(task)), naive_hard_lots(task))

    def test_all_lots_of_larger_tasks(self):
        source = random.Random(111)
        hard = 0
        for _ in range(60):
            task = some_large_task(source)
            found = least_hard(field_of(task))
            for way in WAYS:
                with way():
                    self.looked_through(task, field_of(task))
                    self.assertEqual(least_hard(field_of(task)), found)
            hard += len([lot for lot in found if len(lot) > 1])
        self.assertGreater(hard, 5)

    def test_whole_levels(self):
        source = random.Random(112)
        for _ in range(15):
            task = some_large_task(source)
            field = field_of(task)
            for lot in all_parts(range(3)):
                field.level_for(mask_of(lot), 50)
                found = sorted(members_of(mask) for mask in field.whole_level(mask_of(lot)))
                self.assertEqual(found, naive_level(task, lot))

    def test_cut_levels(self):
        """A level that is not whole tells meets, but not all."""
        source = random.Random(113)
        cut = 0
        for _ in range(20):
            task = some_large_task(source)
            field = field_of(task)
            for most in (1, 30, 300):
                masks, is_whole = field.level_for(0b111, most)
                self.assertTrue(all(fits_for(task, (0, 1, 2), mask) for mask in masks[:3]))
                cut += not is_whole
                if is_whole:
                    self.assertEqual(bool(masks), bool(naive_level(task, (0, 1, 2))))
        self.assertGreater(cut, 10)


class FurtherTest(Case):
    def test_a_further_example(self):
        source = random.Random(114)
        for at in range(60):
            task = some_large_task(source) if at % 2 else some_task(source, most=3)
            rows = candidates(task)
            for one in source.sample(rows, min(1, len(rows))):
                sets = greatest_among(set_masks(task, one))
                for way in WAYS:
                    for truth in (True, False):
                        with way():
                            self.same(task, one, truth, field_with(field_of(task), sets, truth))

    def same(self, task, one, truth, field):
        fresh = with_example(task, one, truth)
        self.assertEqual(least_hard(field), least_hard(field_of(fresh)))
        lots = all_parts(range(len(fresh.good)))
        for lot in lots[-3:]:
            body = field.body_for(mask_of(lot))
            self.assertTrue(body is None or fits_for(fresh, lot, body))
            level = sorted(members_of(mask) for mask in field.whole_level(mask_of(lot)))
            self.assertEqual(level, naive_level(fresh, lot))


class HuntTest(Case):
    def test_a_hunt_that_is_cut(self):
        task = some_large_task(random.Random(115))
        field = field_of(task)
        for steps in (0, 1, 5, 10**6):
            hunt = Hunt(field.kin, field.goods, field.bads, steps)
            body = hunt.body(field.everything)
            if hunt.is_cut():
                self.assertIsNone(body)
            else:
                self.assertEqual(body is not None, bool(naive_level(task, (0, 1, 2))))
        self.assertIs(hunt.is_cut(), False)


class GreatestTest(Case):
    def test_the_limit(self):
        masks = [1, 2, 4, 8, 16, 1, 3]
        self.assertEqual(sorted(greatest_among(masks).masks), [3, 4, 8, 16])
        self.assertEqual(sorted(greatest_among(masks, 4).masks), [3, 4, 8, 16])
        self.large("sets", greatest_among, masks, 3)


class KinTest(Case):
    def test_atoms_that_differ_in_other_names_alone(self):
        atoms = [("tie", row) for row in all_rows(range(4), 2)]
        kin = Kin(atoms, 4, 1)

        def alike(row, fixed):
            table = kin.table_for(mask_of(fixed))
            return [atoms[members_of(digit)[0]][1] for digit in table[1 << atoms.index(("tie", row))]]

        self.assertEqual(alike((0, 0), [0]), [(0, 0)])
        self.assertEqual(alike((0, 2), [0]), [(0, 1), (0, 2), (0, 3)])
        self.assertEqual(alike((2, 2), [0]), [(1, 1), (2, 2), (3, 3)])
        self.assertEqual(alike((1, 2), [0]), [(1, 2), (1, 3), (2, 1), (2, 3), (3, 1), (3, 2)])
        self.assertEqual(alike((1, 2), [0, 2]), [(1, 2), (3, 2)])
        self.assertEqual(alike((1, 2), [0, 1, 2]), [(1, 2)])

    def test_exchanges(self):
        atoms = [("red", (name,)) for name in range(3)]
        kin = Kin(atoms, 3, 1)
        self.assertEqual(sorted(set(kin.images_of(0b011))), [0b011, 0b101])
        self.assertEqual(sorted(set(kin.images_of(0b110))), [0b110])
        self.assertEqual(kin.one_each([0b101, 0b011, 0b110, 0b001]), [0b101, 0b110, 0b001])
        self.assertEqual(Kin(atoms, 3, 3).images_of(0b101), [0b101])

    def test_sets_are_made_of_sets(self):
        source = random.Random(116)
        for _ in range(10):
            task = some_large_task(source)
            kin = field_of(task).kin
            for one in task.good:
                masks = set_masks(task, one)
                for mask in masks:
                    self.assertTrue(all(image in masks for image in kin.images_of(mask)))
