"""All theories for slots that fit: how many there are, their order and their edges, and what they say of an example."""

from fewrules.boxes import found_for, is_refutation, search_for
from fewrules.calls import least_set, theory_fits
from fewrules.counts import Counts
from fewrules.errors import InvalidTheory, NoTheory, UnknownExample
from fewrules.fillings import check_example
from fewrules.leaves import narrowed, widened
from fewrules.parts import digits_of
from fewrules.rules import check_theory
from fewrules.slots import check_slots, slots_of, slots_with
from fewrules.splits import Splits


def count_fitting(task, slots):
    """Return the number of the theories for the slots that fit."""
    check_slots(task, slots)
    return Counts(slots_of(task, slots)).total


def counted(task, slots):
    """Return the number of the theories for the slots that fit, and the first one of them, or None."""
    check_slots(task, slots)
    held = slots_of(task, slots)
    counts = Counts(held)
    first = counts.theory_at(0)
    return (counts.total, None if first is None else held.theory_of(first))


def fitting_at(task, slots, number):
    """Return the fitting theory with this number, or None if there is none."""
    check_slots(task, slots)
    held = slots_of(task, slots)
    mask = Counts(held).theory_at(number)
    return None if mask is None else held.theory_of(mask)


def number_of(task, slots, theory):
    """Return the number of a theory for the slots, or None if it does not fit."""
    check_theory(task, theory)
    check_slots(task, slots)
    if not is_for(slots, theory):
        raise InvalidTheory("slots")
    held = slots_of(task, slots)
    mask = held.mask_for(theory)
    return Counts(held).number_at(mask) if held.fits(mask) else None


def is_for(slots, theory):
    """Return True if the theory has one rule for each slot, of the slot's relation."""
    return [name for name, _ in theory] == list(slots)


def edge_theories(task, slots):
    """Return the lists of the most general and of the most special theories for the slots."""
    check_slots(task, slots)
    held = slots_of(task, slots)
    return (told_in_order(held, general_masks(held)), told_in_order(held, special_masks(held)))


def told_in_order(slots, masks):
    """Return the list of the theories of masks in order."""
    places = digits_of(slots.everything)
    ordered = sorted(masks, key=lambda mask: [mask & digit != 0 for digit in places])
    return [slots.theory_of(mask) for mask in ordered]


def general_masks(slots):
    """Return the list of the masks of the most general theories."""
    splits = Splits(slots, False)
    found = []

    def take(mask):
        """Keep a most general theory below one that fits: with fewer atoms no good example is lost."""
        found.append(narrowed(mask, mask, lambda less: slots.wrong(less) is None))
        splits.leave_out_above(found[-1])

    splits.search(0, slots.everything, None, take)
    return found


def special_masks(slots):
    """Return the list of the masks of the most special theories."""
    splits = Splits(slots, False)
    found = []

    def take(mask):
        """Keep a most special theory above one that fits: with more atoms no bad example comes in."""
        found.append(widened(mask, slots.everything & ~mask, lambda more: slots.lacking(more) is None))
        splits.leave_out_below(found[-1])

    splits.search(0, slots.everything, None, take)
    return found


def says(task, slots, example):
    """Return whether the example is sure, never or open, with a refutation or with two theories that show it."""
    check_slots(task, slots)
    check_further(task, example)
    word, told = found_for(slots_of(task, slots))
    if word != "theory":
        raise NoTheory()
    known = slots_with(task, slots, example, True)
    truth = known.gives(told, example)
    word, other = search_for(slots_with(task, slots, example, not truth))
    if word == "none":
        return ("sure" if truth else "never", other)
    one = known.theory_of(told)
    return ("open", other, one) if truth else ("open", one, other)


def word_for_slots(task, slots, example):
    """Return the word alone of what is said of an example."""
    return says(task, slots, example)[0]


def check_further(task, example):
    """Raise UnknownExample if the tuple is no example, or one of the task's own."""
    check_example(task, example)
    if example in task.good or example in task.bad:
        raise UnknownExample(example)


def accepts_saying(task, slots, example, saying):
    """Return True if the saying shows what it says of the example."""
    check_slots(task, slots)
    check_further(task, example)
    if saying[0] == "open":
        return shows(task, slots, example, saying[1], False) and shows(task, slots, example, saying[2], True)
    return is_refutation(slots_with(task, slots, example, saying[0] == "never"), saying[1])


def shows(task, slots, example, theory, truth):
    """Return True if a theory for the slots fits, and has the example (True) or has it not (False)."""
    if not is_for(slots, theory) or not theory_fits(task, theory):
        return False
    return (example[1:] in least_set(task, theory, example[0])) == truth
