"""What programs give in a world, worked out with masks of its placings."""

from fewrules.errors import InvalidTheory
from fewrules.parts import digits_of
from fewrules.placings import Ground


def check_program(task, program):
    """Raise InvalidTheory if the tuple is no program of the task."""
    tables, rules = program
    if not all(0 <= places <= task.names for places in tables):
        raise InvalidTheory("table")
    places = places_of(task, program)
    unknown = dict(task.signature.unknown)
    for symbol, body in rules:
        # The names of known relations are symbols too, but not of heads.
        if symbol not in places or (isinstance(symbol, str) and symbol not in unknown):
            raise InvalidTheory("unknown")
        if not all(is_called(places, task.names, one, names) for one, names in body):
            raise InvalidTheory("body")


def places_of(task, program):
    """Return a table of the places of all symbols of a program."""
    places = {number: count for number, count in enumerate(program[0])}
    for name, count in task.signature.known + task.signature.unknown:
        places[name] = count
    return places


def is_called(places, names, symbol, row):
    """Return True if the row has as many names as the symbol has places, and only names that there are."""
    return symbol in places and len(row) == places[symbol] and all(0 <= name < names for name in row)


class Run:
    """The facts of a program in a world: for each table and unknown relation the mask of its facts.

    Atoms of bodies are pairs (symbol, names); a table tells the mask of the placings at which each one is true.
    """

    def __init__(self, task, program, world):
        self.ground = Ground(task.worlds[world].constants, task.names)
        self.places = places_of(task, program)
        self.rules = program[1]
        self.facts = {symbol: 0 for symbol in self.places}
        self.true_at = {atom: 0 for _, body in self.rules for atom in body}
        self.rows_of = {symbol: [] for symbol in self.places}
        for symbol, names in self.true_at:
            self.rows_of[symbol].append(names)
        for name, row in task.closed[world]:
            places = [self.ground.constants.index(constant) for constant in row]
            for names in self.rows_of[name]:
                self.true_at[(name, names)] = self.true_at[(name, names)] | self.ground.matching(names, places)
        self.work()

    def work(self):
        """Work out the facts: a rule is looked at again when a symbol of its body has got a fact."""
        users = {symbol: [] for symbol in self.places}
        for number, (_, body) in enumerate(self.rules):
            for symbol in {one: True for one, _ in body}:
                users[symbol].append(number)
        waiting = list(range(len(self.rules)))
        waits = {number: True for number in waiting}
        while waiting:
            number = waiting.pop()
            waits[number] = False
            symbol, body = self.rules[number]
            if self.take(symbol, body):
                more = [other for other in users[symbol] if not waits[other]]
                waiting.extend(more)
                for other in more:
                    waits[other] = True

    def take(self, symbol, body):
        """Add the facts that a rule gives; return True if there are any."""
        mask = self.ground.everything
        for atom in body:
            mask = mask & self.true_at[atom]
        fresh = self.ground.heads(mask, self.places[symbol]) & ~self.facts[symbol]
        self.facts[symbol] = self.facts[symbol] | fresh
        for names in self.rows_of[symbol]:
            self.true_at[(symbol, names)] = self.true_at[(symbol, names)] | self.ground.truth(names, fresh)
        return fresh != 0

    def rows(self, symbol):
        """Return the list of the tuples of constants of the facts of a symbol, in order."""
        return [self.ground.placing_of(digit)[:self.places[symbol]] for digit in digits_of(self.facts[symbol])]
