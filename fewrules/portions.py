"""Parts of a plain task, for some of its examples: what the greatest sets of these are is found once for all parts."""

from fewrules.colours import first_colouring, judge_colours
from fewrules.fields import Field
from fewrules.fillings import fillings, set_of, sets_of
from fewrules.kin import Kin
from fewrules.lots import accepts_lots
from fewrules.parts import greatest_among, mask_of
from fewrules.plain import everything_of
from fewrules.theories import refusal_from, theory_from


class Portions:
    """A plain task, and tables of what was found for its examples.

    A part is told by two lists, of good examples and of bad ones.
    """

    def __init__(self, task):
        self.task = task
        self.name, places = task.signature.unknown[0]
        self.kin = Kin(task.atoms, task.names, places)
        self.sets = {example: sets_of(task, example) for example in [*task.good, *task.bad]}
        self.full = {}

    def masks_for(self, example):
        """Return the list of the masks of the greatest sets of an example."""
        return [mask_of(body) for body, _ in self.sets[example]]

    def field(self, good, bad):
        """Return the field of a part."""
        goods = [greatest_among(self.masks_for(example)) for example in good]
        bads = greatest_among([mask for example in bad for mask in self.masks_for(example)])
        return Field(everything_of(self.task), self.kin, goods, bads)

    def theory(self, good, bad, k):
        """Return the theory of at most k rules that is told for a part, or None if none fits."""
        return theory_from(self.field(good, bad), self.name, k)

    def refusal(self, good, bad, k):
        """Return the refusal for k that is told for a part that no theory of at most k rules fits."""
        bads = [(at, filling) for at, example in enumerate(bad) for _, filling in self.sets[example]]
        return refusal_from(self.field(good, bad), bads, k)

    def accepts_refusal(self, good, bad, k, told):
        """Return True if the refusal for k is accepted for a part."""
        paper, tree = told
        goods = {at: self.masks_for(example) for at, example in enumerate(good)}
        if not accepts_lots(self.task, goods, self.filling_sets(bad), paper):
            return False
        return judge_colours(len(good), [lot for lot, _ in paper], k, tree)

    def filling_sets(self, bad):
        """Return a table that tells the mask of the set of each tuple (number, filling) of bad examples."""
        found = {}
        for at, example in enumerate(bad):
            if example not in self.full:
                self.full[example] = [
                    (filling, mask_of(set_of(self.task, example[0], filling)))
                    for filling in fillings(self.task, example)
                ]
            for filling, mask in self.full[example]:
                found[(at, filling)] = mask
        return found


class Trials:
    """Which parts of a task a theory of at most k rules fits; examples are told by masks of their places."""

    def __init__(self, portions, k):
        self.portions = portions
        self.k = k
        self.good = portions.task.good
        self.bad = portions.task.bad
        self.fields = {}

    def fits(self, goods, bads):
        """Return True if a theory of at most k rules fits the part for these good and these bad examples."""
        field = self.field_for(bads)
        numbers = [at for at in range(len(self.good)) if goods & (1 << at)]

        def is_fine(colours):
            """Return True if one rule takes all examples of the last colour."""
            lot = mask_of([numbers[thing] for thing, colour in enumerate(colours) if colour == colours[-1]])
            return field.body_for(lot) is not None

        return first_colouring(len(numbers), self.k, is_fine) is not None

    def field_for(self, bads):
        """Return the field with all good examples and these bad ones."""
        if bads not in self.fields:
            bad = [example for at, example in enumerate(self.bad) if bads & (1 << at)]
            self.fields[bads] = self.portions.field(self.good, bad)
        return self.fields[bads]
