"""Bodies that are parts of other bodies."""


def mask_of(body):
    """Return the number whose binary digits tell the members of a body."""
    mask = 0
    for number in body:
        mask = mask | (1 << number)
    return mask


def greatest_of(bodies):
    """Return, ascending and each once, the bodies that are no proper parts of others."""
    rows = sorted(set(bodies))
    masks = [mask_of(row) for row in rows]
    return [row for row, mask in zip(rows, masks) if not has_greater(mask, masks)]


def has_greater(mask, masks):
    """Return True if one of the masks has all digits of this one, and more."""
    return any((mask & other) == mask and mask != other for other in masks)
