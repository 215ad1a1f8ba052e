"""The lines of the text of a task, the kinds of their words, and the first error in them."""

from fewrules.errors import TextError
from fewrules.words import atom_of, is_name, is_numeral, words_of

NAMES = ("a", "b", "c", "d")

# For each first word of a line the first words that the line ahead may have; "" is the beginning.
AHEAD = {
    "known": ("", "known"),
    "unknown": ("known", "unknown"),
    "names": ("unknown",),
    "rule": ("names", "rule"),
    "world": ("names", "rule", "world", "fact"),
    "fact": ("world", "fact"),
    "good": ("world", "fact", "good"),
    "bad": ("world", "fact", "good", "bad"),
}


def check_lines(lines):
    """Raise TextError for the first error in the lines of the text of a task."""
    ahead = ""
    for number, line in enumerate(lines, start=1):
        words = words_of(line)
        first = words[0][1]
        if ahead not in AHEAD.get(first, ()):
            raise TextError(number, 1, "line")
        if not is_count(first, len(words)):
            raise TextError(number, 1, "count")
        strange = first_strange(words[1:], kinds_behind(first, len(words) - 1))
        if strange is not None:
            raise TextError(number, strange, "word")
        ahead = first
    if not any(text.startswith("world ") for text in lines):
        raise TextError(len(lines) + 1, 1, "end")


def is_count(first, count):
    """Return True if a line with this first word may have so many words."""
    if first == "names":
        return count in (2, 3)
    if first == "fact":
        return count == 2
    if first == "world":
        return count >= 2
    if first == "rule":
        return count >= 4 and count % 2 == 0
    return count == 3


def kinds_behind(first, count):
    """Return the list of the kinds of so many words behind this first word of a line."""
    if first == "names":
        return ["numeral", "calls"][:count]
    if first == "fact":
        return ["atom"]
    if first == "world":
        return ["name"] * count
    if first == "rule":
        return clause_kinds("letters", count)
    if first in ("good", "bad"):
        return ["numeral", "atom"]
    return ["name", "numeral"]


def clause_kinds(atom, count):
    """Return the list of the kinds of so many words of a rule, with this kind for its atoms."""
    kinds = [atom, "if"]
    while len(kinds) < count:
        kinds.extend([atom, "and"])
    return kinds[:count]


def first_strange(words, kinds):
    """Return the column of the first word that is not of its kind, or None."""
    for (column, word), kind in zip(words, kinds):
        if not is_kind(word, kind):
            return column
    return None


def is_kind(word, kind):
    """Return True if the word is of the kind; a kind that is none of those below is the word itself."""
    if kind == "name":
        return is_name(word)
    if kind == "numeral":
        return is_numeral(word)
    if kind == "atom":
        return atom_of(word) is not None
    if kind == "letters":
        return is_lettered(word)
    return word == kind


def is_lettered(word):
    """Return True if the word is a written atom with the names of a background rule."""
    atom = atom_of(word)
    return atom is not None and all(name in NAMES for name in atom[1])
