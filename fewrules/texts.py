"""The texts of tasks, rules and examples."""

from fewrules.errors import TextError, TooLarge
from fewrules.lines import NAMES, check_lines, clause_kinds, first_strange
from fewrules.rules import body_atoms, head_of
from fewrules.tasks import Signature, Task
from fewrules.words import atom_of, lines_of, words_of
from fewrules.worlds import World

MOST_CHARACTERS = 20000


def read_task(text):
    """Return the task of a text."""
    if len(text) > MOST_CHARACTERS:
        raise TooLarge("text")
    lines = lines_of(text)
    check_lines(lines)
    rows = [line.split(" ") for line in lines]
    signature = Signature(relations_in(rows, "known"), relations_in(rows, "unknown"))
    worlds = worlds_in(rows)
    stated = rows_of(rows, "names")[0]
    return Task(
        signature,
        [background_of(row) for row in rows_of(rows, "rule")],
        worlds,
        int(stated[1]),
        good=examples_in(rows, "good"),
        bad=examples_in(rows, "bad"),
        calls=len(stated) == 3,
    )


def rows_of(rows, word):
    """Return the list of the lines, lists of words, that begin with this word."""
    return [row for row in rows if row[0] == word]


def relations_in(rows, word):
    """Return the list of the relations of the lines that begin with this word."""
    return [(row[1], int(row[2])) for row in rows_of(rows, word)]


def examples_in(rows, word):
    """Return the list of the examples of the lines that begin with this word."""
    return [example_of(row[1], row[2]) for row in rows_of(rows, word)]


def example_of(numeral, word):
    """Return the example of a numeral and a written atom."""
    name, constants = atom_of(word)
    return (int(numeral), name, constants)


def worlds_in(rows):
    """Return the list of the worlds of the lines."""
    parts = []
    for row in rows:
        if row[0] == "world":
            parts.append((row[1:], []))
        if row[0] == "fact":
            parts[-1][1].append(atom_of(row[1]))
    return [World(constants, facts) for constants, facts in parts]


def background_of(row):
    """Return the background rule of a line."""
    atoms = [numbered(atom_of(word)) for word in row[1::2]]
    return (atoms[0], atoms[1:])


def numbered(atom):
    """Return the atom with numbers for the letters that are its names."""
    return (atom[0], tuple([NAMES.index(letter) for letter in atom[1]]))


def write_task(task):
    """Return the text of a task."""
    lines = [f"known {name} {places}" for name, places in task.signature.known]
    lines.extend([f"unknown {name} {places}" for name, places in task.signature.unknown])
    lines.append(f"names {task.names} calls" if task.calls else f"names {task.names}")
    lines.extend(["rule " + clause_text(head, atoms) for head, atoms in task.background])
    for world in task.worlds:
        lines.append("world " + " ".join(world.constants))
        lines.extend(["fact " + fact_text(fact) for fact in world.facts])
    lines.extend(["good " + write_example(example) for example in task.good])
    lines.extend(["bad " + write_example(example) for example in task.bad])
    return "".join([line + "\n" for line in lines])


def fact_text(fact):
    """Return the text of a fact."""
    return fact[0] + "(" + ",".join(fact[1]) + ")"


def atom_text(atom):
    """Return the text of an atom, with letters for the numbers that are its names."""
    return fact_text((atom[0], [NAMES[number] for number in atom[1]]))


def clause_text(head, atoms):
    """Return the text of a rule with this head and the atoms of its body."""
    if not atoms:
        return atom_text(head)
    return atom_text(head) + " if " + " and ".join([atom_text(atom) for atom in atoms])


def read_rule(task, text):
    """Return the rule of a text."""
    return rule_at(task, text, 1)


def rule_at(task, text, line):
    """Return the rule of a text, with this number of the line in errors."""
    words = words_of(text)
    if len(words) % 2 == 0:
        raise TextError(line, 1, "count")
    strange = first_strange(words, clause_kinds("atom", len(words)))
    if strange is not None:
        raise TextError(line, strange, "word")
    heads = {atom_text(head_of(task, name)): name for name, _ in task.signature.unknown}
    if words[0][1] not in heads:
        raise TextError(line, 1, "head")
    return (heads[words[0][1]], body_at(task, words[2::2], line))


def body_at(task, words, line):
    """Return the body of the words of its atoms."""
    numbers = {atom_text(atom): number for number, atom in enumerate(task.atoms)}
    for column, word in words:
        if word not in numbers:
            raise TextError(line, column, "atom")
    found = {}
    for column, word in words:
        if word in found:
            raise TextError(line, column, "twice")
        found[word] = numbers[word]
    return tuple(sorted(found.values()))


def write_rule(task, rule):
    """Return the text of a rule of the task."""
    return clause_text(head_of(task, rule[0]), body_atoms(task, rule[1]))


def read_theory(task, lines):
    """Return the list of the rules of a list of lines."""
    return [rule_at(task, text, number) for number, text in enumerate(lines, start=1)]


def write_theory(task, rules):
    """Return the list of the lines of a list of rules."""
    return [write_rule(task, rule) for rule in rules]


def read_example(task, text):
    """Return the example of a text."""
    words = words_of(text)
    if len(words) != 2:
        raise TextError(1, 1, "count")
    strange = first_strange(words, ["numeral", "atom"])
    if strange is not None:
        raise TextError(1, strange, "word")
    column = words[1][0]
    world, name, constants = example_of(words[0][1], words[1][1])
    if world >= len(task.worlds):
        raise TextError(1, 1, "world")
    if dict(task.signature.unknown).get(name) != len(constants):
        raise TextError(1, column, "relation")
    if not all(constant in task.worlds[world].constants for constant in constants):
        raise TextError(1, column, "constant")
    return (world, name, constants)


def write_example(example):
    """Return the text of an example."""
    number, name, constants = example
    return str(number) + " " + fact_text((name, constants))
