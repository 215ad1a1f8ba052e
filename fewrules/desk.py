"""Desks that obey lines, and keeps: desks with journals."""

from fewrules.answers import book_answer, follows_answer, says_answer, slots_answer
from fewrules.book import Book
from fewrules.errors import (
    InvalidLine,
    InvalidSignature,
    InvalidTask,
    InvalidTheory,
    InvalidWorld,
    NoTheory,
    TextError,
    TooLarge,
    UnknownExample,
)
from fewrules.journal import Journal, check_characters
from fewrules.tasks import is_plain
from fewrules.texts import read_example, read_task, write_task
from fewrules.words import is_numeral, lines_of

MOST_CHARACTERS = 200
MOST_LINES = 300
MOST_RULES = 8

# For each first word of a line the least and the greatest number of its words; None if any number will do from there.
COUNTS = {
    "draft": (1, None),
    "clear": (1, 1),
    "task": (1, 1),
    "rules": (2, 2),
    "good": (3, 3),
    "bad": (3, 3),
    "remove": (3, 3),
    "turn": (3, 3),
    "undo": (1, 1),
    "drift": (1, 1),
    "theory": (1, 1),
    "least": (1, 1),
    "edges": (1, 1),
    "says": (3, 3),
    "ask": (1, 1),
    "clashes": (1, 1),
    "slots": (1, None),
    "follows": (3, None),
    "write": (2, 2),
}
CHANGES = ("draft", "clear", "task", "rules", "good", "bad", "remove", "turn", "undo")
DEEDS = ("good", "bad", "remove", "turn")
WITHOUT_TASK = ("draft", "clear", "task", "undo")
FOR_ALL_TASKS = ("draft", "clear", "task", "undo", "slots", "follows", "write")


class Desk:
    """A draft, a task or none, a book for a plain task, and for each line that changed something what was ahead of it.

    What is kept of a line is a tuple (line, draft, task, book, k); the lists of drafts are not changed.
    """

    def __init__(self):
        self._draft = []
        self._task = None
        self._book = None
        self._past = []

    def obey(self, line):
        """Obey the line, and return the answer."""
        check_line(line)
        words = line.split(" ")
        reason = self._reason_against(words)
        if reason is not None:
            return ["refused " + reason]
        try:
            return self._answer(line, words)
        except TextError as text:
            return [f"refused text {text.line} {text.column} {text.reason}"]
        except TooLarge as large:
            return ["refused large " + large.limit]
        except InvalidSignature as signature:
            return ["refused signature " + signature.reason]
        except InvalidWorld as world:
            return ["refused world " + world.reason]
        except InvalidTask as task:
            return ["refused task " + task.reason]
        except InvalidTheory as theory:
            return ["refused theory " + theory.reason]
        except UnknownExample:
            return ["refused unknown"]
        except NoTheory:
            return ["refused none"]

    def journal(self):
        """Return the list of the lines that changed something and were not taken back."""
        return [row[0] for row in self._past]

    def _reason_against(self, words):
        """Return the reason why a line with these words is not obeyed, as far as no call tells it, or None."""
        first = words[0]
        if first not in COUNTS:
            return "word"
        least, most = COUNTS[first]
        if len(words) < least or (most is not None and len(words) > most):
            return "count"
        if first == "write" and words[1] not in ("task", "draft"):
            return "what"
        if self._task is None and first not in WITHOUT_TASK and words != ["write", "draft"]:
            return "task"
        if self._book is None and first not in FOR_ALL_TASKS:
            return "plain"
        if first == "draft" and len(self._draft) >= MOST_LINES:
            return "full"
        if first == "rules" and not (is_numeral(words[1]) and int(words[1]) <= MOST_RULES):
            return "number"
        if first == "undo" and not self._past:
            return "nothing"
        return None

    def _answer(self, line, words):
        """Return the answer to a line that nothing speaks against yet."""
        if words[0] in CHANGES:
            return self._change(line, words)
        rest = rest_of(line)
        if words[0] == "write":
            return list(self._draft) if words[1] == "draft" else lines_of(write_task(self._present()))
        if words[0] == "slots":
            return slots_answer(self._present(), words[1:])
        if words[0] == "follows":
            return follows_answer(self._present(), " ".join(words[1:3]), words[3:])
        if words[0] == "says":
            return says_answer(self._book, rest)
        return book_answer(self._book, words[0])

    def _change(self, line, words):
        """Do what a line asks for that changes something, and return the answer."""
        if words[0] == "undo":
            return self._undo()
        ahead = (line, self._draft, self._task, self._book, None if self._book is None else self._book.k)
        if words[0] in DEEDS:
            self._do(words[0], read_example(self._present(), rest_of(line)))
            answer = self._count_examples()
        elif words[0] == "task":
            self._begin(read_task("".join([row + "\n" for row in self._draft])))
            answer = self._count_examples()
        elif words[0] == "rules":
            set_k(self._book, int(words[1]))
            answer = line
        else:
            self._draft = [] if words[0] == "clear" else [*self._draft, rest_of(line)]
            answer = f"lines {len(self._draft)}"
        self._past.append(ahead)
        return [answer]

    def _do(self, word, example):
        """Do a deed of the book."""
        if word == "remove":
            self._book.remove(example)
        elif word == "turn":
            self._book.turn(example)
        else:
            self._book.add(example, word == "good")

    def _begin(self, task):
        """Take a task, and empty the draft."""
        self._task = task
        self._book = Book(task, 1) if is_plain(task) else None
        self._draft = []

    def _undo(self):
        """Take back the last line that changed something."""
        line, self._draft, self._task, self._book, k = self._past.pop()
        if self._book is not None:
            set_k(self._book, k)
        if line.split(" ")[0] in DEEDS:
            self._book.undo()
        return ["undone " + line]

    def _present(self):
        """Return the present task."""
        return self._task if self._book is None else self._book.task

    def _count_examples(self):
        """Return the line that tells how many examples there are."""
        task = self._present()
        return f"examples {len(task.good)} {len(task.bad)}"


class Keep:
    """A desk with a journal of the lines that changed something."""

    def __init__(self, text=""):
        self._journal = Journal(text)
        for record in self._journal.records():
            check_line(record)
        self._desk = desk_behind(self._journal.records())

    def obey(self, line):
        """Obey the line, and return the answer."""
        check_line(line)
        if not self._journal.is_on:
            return ["off"]
        answer = self._desk.obey(line)
        if is_change(line) and not answer[0].startswith("refused") and not self._journal.add(line):
            return ["lost"]
        return answer

    def fail(self, count):
        """Set the fuse of the journal."""
        self._journal.fail(count)

    def open_again(self):
        """Open the keep: a new desk obeys the records of the journal."""
        self._journal.open_again()
        self._desk = desk_behind(self._journal.records())

    def text(self):
        """Return the text of the journal."""
        return self._journal.text()


def answers_of(lines):
    """Return the list of the answers of a new desk to the lines."""
    desk = Desk()
    return [desk.obey(line) for line in lines]


def set_k(book, k):
    """Set the number of rules of a book."""
    book.k = k


def desk_behind(records):
    """Return a new desk that has obeyed those of the records that may change something."""
    desk = Desk()
    for record in records:
        if is_change(record):
            desk.obey(record)
    return desk


def is_change(line):
    """Return True if the line asks for a change."""
    return line.split(" ")[0] in CHANGES


def rest_of(line):
    """Return what follows the first space of a line."""
    return line.partition(" ")[2]


def check_line(line):
    """Raise InvalidLine if the line is too long, or has a character that a line must not have."""
    if len(line) > MOST_CHARACTERS:
        raise InvalidLine("length")
    check_characters(line)
