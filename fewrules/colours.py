"""Colourings of things in which no lot is of one colour, trees that show that there is none, and crowds.

Colours so far are a list of the colours of the first things.
"""

from fewrules.parts import size_of


def least_colouring(count, lots, k):
    """Return the least colouring, or None if there is none."""
    ending = numbers_by_last(lots)
    return first_colouring(count, k, lambda colours: first_of_one_colour(lots, ending, colours) is None)


def first_colouring(count, k, is_fine):
    """Return the first colouring by which the function finds the colours so far fine behind each thing, or None."""
    colours = []
    following = 0
    while len(colours) < count:
        if following >= choices_for(colours, k):
            if not colours:
                return None
            following = colours.pop() + 1
            continue
        colours.append(following)
        following = 0
        if not is_fine(colours):
            following = colours.pop() + 1
    return colours


def choices_for(colours, k):
    """Return how many colours the next thing may get: the used ones, and the least unused one if there is one."""
    used = max(colours, default=-1) + 1
    return min(used + 1, k)


def numbers_by_last(lots):
    """Return a table that tells for a thing the list of the numbers of the lots whose last thing it is."""
    ending = {}
    for number, lot in enumerate(lots):
        ending.setdefault(lot[-1], []).append(number)
    return ending


def first_of_one_colour(lots, ending, colours):
    """Return the number of the first lot that ends with the last thing that has a colour and is of one, or None."""
    for number in ending.get(len(colours) - 1, []):
        if all(colours[thing] == colours[-1] for thing in lots[number]):
            return number
    return None


def colour_tree(count, lots, k):
    """Return the colour tree with each lot as early as possible, the first such one, or None if there is a colouring.

    While no lot is of one colour, a lot that comes to be of one ends with the thing that got a colour last.
    """
    if least_colouring(count, lots, k) is not None:
        return None
    ending = numbers_by_last(lots)
    trees = []
    waiting = [([], trees)]
    while waiting:
        colours, given = waiting.pop()
        for colour in range(choices_for(colours, k)):
            more = [*colours, colour]
            number = first_of_one_colour(lots, ending, more)
            if number is None:
                below = []
                given.append(("give", below))
                waiting.append((more, below))
            else:
                given.append(("lot", number))
    return ("give", trees)


def judge_colours(count, lots, k, tree):
    """Return True if the colour tree is accepted."""
    waiting = [([], tree)]
    while waiting:
        colours, (word, told) = waiting.pop()
        if word == "lot":
            if not 0 <= told < len(lots) or not is_of_one_colour(lots[told], colours):
                return False
        else:
            if len(colours) >= count or len(told) != choices_for(colours, k):
                return False
            waiting.extend([([*colours, colour], below) for colour, below in enumerate(told)])
    return True


def is_of_one_colour(lot, colours):
    """Return True if all things of the lot have colours, and the same one."""
    return all(thing < len(colours) and colours[thing] == colours[lot[0]] for thing in lot)


def greatest_crowd(count, lots):
    """Return the first crowd in ascending order among those with the most things."""
    near = neighbours(count, lots)
    best = ()
    waiting = [((), (1 << count) - 1)]
    while waiting:
        crowd, rest = waiting.pop()
        if len(crowd) > len(best):
            best = crowd
        # A crowd that does not become larger comes behind the best one in the order.
        if len(crowd) + size_of(rest) > len(best) and rest:
            digit = rest & -rest
            thing = digit.bit_length() - 1
            waiting.append((crowd, rest ^ digit))
            waiting.append(((*crowd, thing), (rest ^ digit) & near[thing]))
    return best


def neighbours(count, lots):
    """Return for each thing a mask that has, of the later things, those with which it is hard two by two."""
    everything = (1 << count) - 1
    near = [0] * count
    for lot in lots:
        if len(lot) == 2:
            near[lot[0]] = near[lot[0]] | (1 << lot[1])
        if len(lot) == 1:
            near = [row | (1 << lot[0]) for row in near]
            near[lot[0]] = everything
    return near
