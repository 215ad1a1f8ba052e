"""The making of a program that says what is kept onto no bad example.

For each placing of a world with bad examples there is a table: of those placings that make no pair of the greatest
keeping list with it. A second kind of tables is for a placing without one of its names: of those placings, without that
name, to which a constant can be put such that no constant is an answer to it.
"""

from fewrules.marbles import turning_rows
from fewrules.scenes import Scene


class Maker:
    """The places of tables, and rules, as they are made."""

    def __init__(self, names):
        self.names = names
        self.every = tuple(range(names))
        self.tables = []
        self.rules = []

    def table(self, places):
        """Return the number of a new table."""
        self.tables.append(places)
        return len(self.tables) - 1

    def tables_against(self, task, scene):
        """Make the tables for the placings of a world, with their rules, and return the list of their numbers."""
        ground = scene.ground
        numbers = [self.table(self.names) for _ in range(ground.count)]
        for at, atom in enumerate(task.atoms):
            if at in scene.holding and is_in_turn(atom[1]):
                lacking = [number for place, number in enumerate(numbers) if not scene.holding[at] & (1 << place)]
                self.rules.extend([(number, [atom]) for number in lacking])
        for row in turning_rows(self.names):
            self.rules.extend([(number, [(numbers[other], row)]) for number, other in zip(numbers, ground.along(row))])
        for name in range(self.names):
            self.tables_without(ground, numbers, name)
        return numbers

    def tables_without(self, ground, numbers, name):
        """Make the tables for the placings without a name, with the rules from them and to them."""
        others = self.every[:name] + self.every[name + 1:]
        # The name that is put behind the others stands for the constant that is put in.
        answered = (*self.every[:name], self.names - 1, *self.every[name:-1])
        for at in range(ground.count):
            answers = ground.changed_at(at, name)
            if answers[0] == at:
                table = self.table(self.names - 1)
                self.rules.append((table, [(numbers[answer], answered) for answer in answers]))
                self.rules.extend([(numbers[answer], [(table, others)]) for answer in answers])


def is_in_turn(names):
    """Return True if each name of the tuple stands there already, or is the least one that does not."""
    return all(name <= max(names[:at], default=-1) + 1 for at, name in enumerate(names))


def program_against(task):
    """Return a program that says all examples that are kept onto no bad one."""
    maker = Maker(task.names)
    tables = {}
    scenes = {}
    for number in sorted({example[0]: True for example in task.bad}):
        scenes[number] = Scene(task, number)
        tables[number] = maker.tables_against(task, scenes[number])
    for name, _ in task.signature.unknown:
        body = []
        for bad in task.bad:
            if bad[1] == name:
                placings = scenes[bad[0]].numbers_of_fillings(bad)
                body.extend([(tables[bad[0]][at], maker.every) for at in placings])
        maker.rules.append((name, body))
    return (maker.tables, maker.rules)
