"""Lines, words, names, numerals and written atoms."""

LETTERS = "abcdefghijklmnopqrstuvwxyz"
DIGITS = "0123456789"


def lines_of(text):
    """Return the list of the lines of a text."""
    lines = text.split("\n")
    if lines[-1] == "":
        return lines[:-1]
    return lines


def words_of(line):
    """Return the list of the words of a line, tuples (column, word)."""
    words = []
    column = 1
    for word in line.split(" "):
        words.append((column, word))
        column = column + len(word) + 1
    return words


def is_name(word):
    """Return True if the string is a name."""
    return 1 <= len(word) <= 12 and all(letter in LETTERS for letter in word)


def is_numeral(word):
    """Return True if the string is a numeral."""
    if not 1 <= len(word) <= 9 or not all(digit in DIGITS for digit in word):
        return False
    return word == "0" or not word.startswith("0")


def atom_of(word):
    """Return the tuple (name, tuple of names) of a written atom, or None if the string is none."""
    name, _, rest = word.partition("(")
    names = rest[:-1].split(",")
    if not rest.endswith(")") or not is_name(name) or not all(is_name(part) for part in names):
        return None
    return (name, tuple(names))
