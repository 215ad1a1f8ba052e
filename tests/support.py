"""What several files of tests use: a test case that looks at errors, and ready tasks."""

import unittest

from fewrules.errors import FewrulesError, TooLarge
from fewrules.tasks import Signature, Task
from fewrules.worlds import World


class Case(unittest.TestCase):
    def raises(self, kind, told, call, *rest, **more):
        """The call raises an error of exactly this class with these attributes."""
        with self.assertRaises(FewrulesError) as caught:
            call(*rest, **more)
        self.assertIs(caught.exception.__class__, kind)
        self.assertEqual(vars(caught.exception), told)

    def large(self, limit, call, *rest, **more):
        self.raises(TooLarge, {"limit": limit}, call, *rest, **more)

    def invalid(self, kind, reason, call, *rest, **more):
        self.raises(kind, {"reason": reason}, call, *rest, **more)


def all_rows(values, places):
    """All tuples of the values, the last place fastest, worked out without the package."""
    rows = [()]
    for _ in range(places):
        rows = [row + (value,) for row in rows for value in values]
    return rows


def many_facts(count, name="big", places=3, constants=("a", "b", "c", "d", "e", "f")):
    """So many facts of one relation; at most 216."""
    return [(name, row) for row in all_rows(constants, places)][:count]


def simple_task(**changes):
    """A small task, with some of its arguments changed."""
    given = {
        "signature": Signature([("red", 1), ("tie", 2)], [("goal", 1)]),
        "background": [],
        "worlds": [World(["ann", "bob"], [("tie", ("ann", "bob")), ("red", ("bob",))])],
        "names": 2,
        "good": [],
        "bad": [],
    }
    given.update(changes)
    places = [given.pop(key) for key in ("signature", "background", "worlds", "names")]
    return Task(*places, **given)
