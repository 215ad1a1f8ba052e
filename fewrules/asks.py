"""Sessions: they ask for open examples until none is left."""

from fewrules.errors import UnknownExample
from fewrules.fields import field_of
from fewrules.plain import check_plain
from fewrules.says import bodies_that_fit, open_among, with_example
from fewrules.theories import theory


class Session:
    """A task that gets a further example by each answer, and the answers so far, tuples (example, truth)."""

    def __init__(self, task, k):
        check_plain(task)
        bodies_that_fit(field_of(task), k)
        self.task = task
        self.k = k
        self.asked = []
        self._settled = {}

    def ask(self):
        """Return the first open candidate, or None if there is none."""
        # What is settled stays so, whatever the answers are.
        found = open_among(self.task, self.k, self._settled, 1)
        return found[0] if found else None

    def answer(self, truth):
        """Take the answer to what is asked: the example becomes a good one (True) or a bad one (False)."""
        example = self.ask()
        if example is None:
            raise UnknownExample(None)
        self.task = with_example(self.task, example, truth)
        self.asked.append((example, truth))

    def found(self):
        """Return the theory that is told for the present task."""
        return theory(self.task, self.k)
