"""What a desk tells of examples, rules, drifts and diagnoses, as lines."""

from fewrules.clashes import all_examples
from fewrules.texts import write_example, write_rule


def examples_text(task, numbers):
    """Return the texts of the examples with these numbers, in their order."""
    found = all_examples(task)
    return joined_examples([found[number] for number in numbers])


def joined_examples(examples):
    """Return the texts of examples, with " and " between them."""
    return " and ".join([write_example(example) for example in examples]) if examples else "nothing"


def rule_lines(task, word, rules):
    """Return the list of the lines of rules, each with a word ahead of it."""
    return [word + " " + write_rule(task, rule) for rule in rules]


def drift_lines(task, rows):
    """Return the list of the lines for a drift."""
    name = task.signature.unknown[0][0]
    lines = []
    for row in rows:
        word = row[0]
        if word == "lot":
            lines.append(f"lot {coming(row[2])} {examples_text(task, row[1])}")
        elif word == "least":
            lines.append(f"least {least_text(row[1])} {least_text(row[2])}")
        elif word == "status":
            lines.append(f"status {write_example(row[1])} {row[2]} {row[3]}")
        else:
            lines.append(f"{word} {coming(row[2])} {write_rule(task, (name, row[1]))}")
    return lines


def coming(there):
    """Return the word for what came, or for what is gone."""
    return "come" if there else "gone"


def least_text(k):
    """Return the text of a least number of rules."""
    return "-" if k is None else str(k)


def diagnosis_lines(task, told):
    """Return the list of the lines for a diagnosis."""
    lines = ["clash " + examples_text(task, numbers) for numbers, _ in told[0]]
    return lines + ["mend " + examples_text(task, numbers) for numbers, _ in told[1]]
