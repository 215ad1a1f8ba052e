"""Lots of good examples, and bodies that fit for them.

A lot is told as the mask of its numbers here.
"""

from fewrules.hunt import Hunt
from fewrules.kin import Kin
from fewrules.parts import greatest_among, meets_of, members_of
from fewrules.plain import bad_masks, everything_of, good_masks

# The levels of a lot are the short way to a body, or to none, for some tasks, and a hunt is for others. So both get
# little work at first, in turns, and then more and more: meets that are made for a level, and steps of the hunt.
FIRST_MEETS = 1000
FIRST_STEPS = 150


class Field:
    """Holders of the greatest sets of each good example, holders of those of bad ones, and what was found out."""

    def __init__(self, everything, kin, goods, bads):
        self.everything = everything
        self.kin = kin
        self.goods = goods
        self.bads = bads
        self.levels = {}
        self.easy = []
        self.hard = []

    def body_for(self, lot):
        """Return the mask of a body that covers all good examples of a lot and no bad example, or None."""
        for covered, body in self.easy:
            if (lot & covered) == lot:
                return body
        if any((lot & hard) == hard for hard in self.hard):
            return None
        body = self.found_body(lot)
        if body is None:
            self.hard.append(lot)
        else:
            covered = sum([1 << number for number, good in enumerate(self.goods) if good.holds(body)])
            self.easy.append((covered, body))
        return body

    def found_body(self, lot):
        """Return such a body by the levels of the lot or by a hunt, or None."""
        work = 1
        while True:
            masks, is_whole = self.level_for(lot, FIRST_MEETS * work)
            if masks or is_whole:
                return masks[0] if masks else None
            goods = [self.goods[number] for number in members_of(lot)]
            hunt = Hunt(self.kin, goods, self.all_bads(), FIRST_STEPS * work)
            body = hunt.body(self.everything)
            if body is not None or not hunt.is_cut():
                return body
            work = work * 4

    def all_bads(self):
        """Return holders of the greatest sets of all bad examples."""
        return self.bads

    def whole_level(self, lot):
        """Return the list of all greatest ones of the meets of a lot that are in no bad set."""
        masks = self.level_for(lot, None)[0]
        return greatest_among([image for mask in masks for image in self.kin.images_of(mask)]).masks

    def level_for(self, lot, most):
        """Return meets of a lot that are in no bad set, and True if they stand for all of the greatest ones.

        No more meets than told are made for each example, those of large ones first; None if there is no limit. Of
        those that differ only in names behind those of the head one alone is told.
        """
        if lot in self.levels:
            masks, is_whole, known = self.levels[lot]
            if is_whole or (most is not None and most <= known):
                return (masks, is_whole)
        masks, is_whole = self.made_level(lot, most)
        self.levels[lot] = (masks, is_whole, most)
        return (masks, is_whole)

    def made_level(self, lot, most):
        """Make what level_for returns from the level of the lot without its last example."""
        if not lot:
            return (self.uncaught([self.everything]), True)
        last = lot.bit_length() - 1
        ahead, is_whole = self.level_for(lot ^ (1 << last), most)
        sets = self.goods[last].masks
        if most is not None and len(ahead) * len(sets) > most:
            ahead = ahead[:most // len(sets)]
            is_whole = False
        return (self.uncaught(meets_of(ahead, sets)), is_whole)

    def uncaught(self, masks):
        """Return the list of the greatest of the masks that are in no bad set, large ones first, one of each kind."""
        return self.kin.one_each(greatest_among([mask for mask in masks if not self.catches(mask)]).masks)

    def catches(self, mask):
        """Return True if the mask is in a bad set."""
        return self.bads.holds(mask)


class FieldWithGood(Field):
    """A field with a further good example behind the others."""

    def __init__(self, base, sets):
        Field.__init__(self, base.everything, base.kin, [*base.goods, sets], base.bads)
        self.base = base
        place = 1 << len(base.goods)
        self.easy = [((covered | place) if sets.holds(body) else covered, body) for covered, body in base.easy]
        self.hard = list(base.hard)

    def is_older(self, lot):
        """Return True if the further example is not in the lot."""
        return lot < (1 << len(self.base.goods))

    def body_for(self, lot):
        """Ask the field without the further example for lots without it."""
        if self.is_older(lot):
            return self.base.body_for(lot)
        return super().body_for(lot)

    def made_level(self, lot, most):
        """Take the levels of lots without the further example from the field without it."""
        if self.is_older(lot):
            return self.base.level_for(lot, most)
        return super().made_level(lot, most)


class FieldWithBad(Field):
    """A field with a further bad example."""

    def __init__(self, base, sets):
        Field.__init__(self, base.everything, base.kin, base.goods, sets)
        self.base = base
        self.easy = [(covered, body) for covered, body in base.easy if not sets.holds(body)]
        self.hard = list(base.hard)

    def all_bads(self):
        """Return holders of the greatest sets of all bad examples."""
        return greatest_among(self.base.bads.masks + self.bads.masks)

    def catches(self, mask):
        """Return True if the mask is in a set of the further example, or in one of the others."""
        return self.bads.holds(mask) or self.base.bads.holds(mask)

    def made_level(self, lot, most):
        """Take a whole level from the field without the further example, without what is in a set of it."""
        masks, is_whole = self.base.level_for(lot, most)
        if is_whole:
            return ([mask for mask in masks if not self.bads.holds(mask)], True)
        return super().made_level(lot, most)


def field_of(task):
    """Return the field of a plain task."""
    kin = Kin(task.atoms, task.names, task.signature.unknown[0][1])
    goods = [greatest_among(masks) for masks in good_masks(task)]
    return Field(everything_of(task), kin, goods, greatest_among(bad_masks(task)))


def field_with(base, sets, truth):
    """Return a field with a further example that has these holders, a good one (True) or a bad one (False)."""
    if truth:
        return FieldWithGood(base, sets)
    return FieldWithBad(base, sets)
