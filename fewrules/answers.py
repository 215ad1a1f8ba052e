"""What a desk answers to lines that ask: lists of lines."""

from fewrules.asks import Session
from fewrules.boxes import accepts_refutation, search
from fewrules.clashes import diagnosis, judge_diagnosis
from fewrules.edges import most_general, most_special
from fewrules.ranges import counted, word_for_slots
from fewrules.report import diagnosis_lines, drift_lines, joined_examples, least_text, rule_lines
from fewrules.says import witnesses
from fewrules.texts import read_example, write_example
from fewrules.theories import judge_refusal, least_k, refusal, theory


def drift_answer(book):
    """Answer to drift."""
    return drift_lines(book.task, book.drift())


def theory_answer(book):
    """Answer to theory."""
    task = book.task
    rules = theory(task, book.k)
    if rules is not None:
        return rule_lines(task, "rule", rules)
    told = refusal(task, book.k)
    lines = ["lot " + joined_examples([task.good[at] for at in lot]) for lot, _ in told[0]]
    return ["none", *lines, *accepted_if(judge_refusal(task, book.k, told))]


def accepted_if(is_accepted):
    """Return the line that tells that something is accepted, if it is."""
    return ["accepted"] if is_accepted else []


def least_answer(book):
    """Answer to least."""
    return ["least " + least_text(least_k(book.task))]


def edges_answer(book):
    """Answer to edges."""
    name = book.task.signature.unknown[0][0]
    special = [(name, body) for body in most_special(book.task)]
    general = [(name, body) for body in most_general(book.task)]
    return rule_lines(book.task, "special", special) + rule_lines(book.task, "general", general)


def ask_answer(book):
    """Answer to ask."""
    example = Session(book.task, book.k).ask()
    return ["settled" if example is None else "ask " + write_example(example)]


def clashes_answer(book):
    """Answer to clashes."""
    told = diagnosis(book.task, book.k)
    return diagnosis_lines(book.task, told) + accepted_if(judge_diagnosis(book.task, book.k, told))


ANSWERS = {
    "drift": drift_answer,
    "theory": theory_answer,
    "least": least_answer,
    "edges": edges_answer,
    "ask": ask_answer,
    "clashes": clashes_answer,
}


def book_answer(book, word):
    """Answer to one of the words that stand alone."""
    answer = ANSWERS[word]
    return answer(book)


def says_answer(book, text):
    """Answer to says and the text of an example."""
    having, without = witnesses(book.task, book.k, read_example(book.task, text))
    word = "never" if having is None else "sure" if without is None else "open"
    return [word, *rule_lines(book.task, "yes", having or []), *rule_lines(book.task, "no", without or [])]


def slots_answer(task, slots):
    """Answer to slots and names of slots."""
    count, first = counted(task, slots)
    if first is not None:
        return [f"count {count}", *rule_lines(task, "rule", first)]
    lines = [f"count {count}"]
    if accepts_refutation(task, slots, search(task, slots)[1]):
        lines.append("refuted")
    return lines


def follows_answer(task, text, slots):
    """Answer to follows, the text of an example and names of slots."""
    return [word_for_slots(task, slots, read_example(task, text))]
