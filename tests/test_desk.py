"""Points 78 to 82, and the interface of fewrules/desk.py."""

import random

from fewrules.book import Book
from fewrules.desk import Desk, Keep, answers_of
from fewrules.errors import InvalidLine
from fewrules.ranges import count_fitting, fitting_at
from fewrules.report import drift_lines
from fewrules.texts import read_task, write_rule, write_task
from tests.plain_support import HALVES
from tests.slots_support import PARITY_TEXT
from tests.support import Case

REDS = ["known red 1", "unknown good 1", "names 1", "world ann bob cid", "fact red(ann)", "fact red(bob)"]
WORDS = ["draft", "clear", "task", "rules", "good", "bad", "remove", "turn", "undo", "drift", "theory", "least",
         "edges", "says", "ask", "clashes", "slots", "follows", "write"]
FORMS = {  # a line of each word with the right number of words
    "draft": "draft x", "clear": "clear", "task": "task", "rules": "rules 1", "good": "good 0 x", "bad": "bad 0 x",
    "remove": "remove 0 x", "turn": "turn 0 x", "undo": "undo", "drift": "drift", "theory": "theory",
    "least": "least", "edges": "edges", "says": "says 0 x", "ask": "ask", "clashes": "clashes", "slots": "slots",
    "follows": "follows 0 x", "write": "write task",
}
PLAIN = ["rules", "good", "bad", "remove", "turn", "drift", "theory", "least", "says", "ask", "edges", "clashes"]
OTHER = "known red 1\nunknown goal 1\nunknown aim 1\nnames 1 calls\nworld ann bob\nfact red(ann)\ngood 0 goal(ann)\n"


def rows_of(text):
    return text.split("\n")[:-1]


def desk_with(text, *lines):
    """A desk with the task of a text, which has obeyed further lines."""
    desk = Desk()
    for line in ["draft " + row for row in rows_of(text)] + ["task", *lines]:
        assert not desk.obey(line)[0].startswith("refused"), line
    return desk


def all_of(desk):
    """All that can be told of a desk without a change."""
    return [desk.obey(line) for line in ["write draft", "write task", "theory", "least", "drift", "clashes", "edges",
                                         "ask"]] + [desk.journal()]


class DeskCase(Case):
    def refused(self, desk, line, reason):
        before = all_of(desk)
        self.assertEqual(desk.obey(line), ["refused " + reason])
        self.assertEqual(all_of(desk), before)


class WorkedTest(Case):
    def test_the_worked_example(self):
        desk = Desk()
        lines = ["draft " + row for row in REDS] + [
            "task", "good 0 good(ann)", "theory", "says 0 good(bob)", "ask", "bad 0 good(bob)", "theory"]
        self.assertEqual([desk.obey(line)[0] for line in lines], [
            "lines 1", "lines 2", "lines 3", "lines 4", "lines 5", "lines 6", "examples 0 0", "examples 1 0",
            "rule good(a)", "sure", "ask 0 good(cid)", "examples 1 1", "none"])
        self.assertEqual(desk.obey("clashes"), [
            "clash 0 good(ann) and 0 good(bob)", "mend 0 good(ann)", "mend 0 good(bob)", "accepted"])
        self.assertEqual(desk.obey("undo"), ["undone bad 0 good(bob)"])
        self.assertEqual(answers_of(["undo", "theory", "good", "write all"]), [
            ["refused nothing"], ["refused task"], ["refused count"], ["refused what"]])
        keep = Keep()
        keep.fail(10)
        self.assertEqual((keep.obey("draft a"), keep.obey("draft b"), keep.obey("clear"), keep.text()), (
            ["lines 1"], ["lost"], ["off"], "draft a\ndr"))
        keep.open_again()
        self.assertEqual(keep.obey("write draft"), ["a"])


class LineTest(DeskCase):
    def test_length_and_characters(self):
        desk = Desk()
        fine = "draft " + "x" * 194
        self.assertEqual(desk.obey(fine), ["lines 1"])
        for line in (fine + "x", "x" * 201, "\t" * 201, "draft " + "x" * 500):
            self.invalid(InvalidLine, "length", desk.obey, line)
        for line in ("draft \t", "draft a\n", "\x7f", "draft \xe9", "\n", "\t" * 200):
            self.invalid(InvalidLine, "character", desk.obey, line)
        self.assertEqual((desk.obey("draft ~ !"), desk.journal()), (["lines 2"], [fine, "draft ~ !"]))

    def test_words_that_are_none(self):
        desk = desk_with(HALVES)
        for line in ("", " ", "drafts", "Draft x", " draft x", "undone", "x y z", "help", "  theory", "refused"):
            self.refused(desk, line, "word")
            self.refused(Desk(), line, "word")

    def test_the_count_of_words(self):
        for desk in (Desk(), desk_with(HALVES), desk_with(OTHER)):
            for word in WORDS:
                count = FORMS[word].count(" ") + 1
                for more in range(5):
                    line = " ".join([word, *["z"] * more])
                    fine = more + 1 == count or word in ("draft", "slots") or word == "follows" and more >= 2
                    if not fine:
                        self.refused(desk, line, "count")
                        self.refused(desk, line + " ", "count" if more + 2 != count else self.reason(desk, line + " "))
                if word not in ("draft", "slots"):
                    self.assertNotEqual(desk.obey(FORMS[word])[:1], ["refused count"])
                    desk = desk if word != "undo" else desk_with(HALVES)

    def reason(self, desk, line):
        """The reason for a line that has the right number of words, the last one being empty."""
        self.assertNotEqual(desk.obey(line), ["refused count"])
        return desk.obey(line)[0].partition(" ")[2]

    def test_which_reason_comes_first(self):
        for line, reason in [("write all now", "count"), ("write all", "what"), ("write", "count"),
                             ("write task", "task"), ("rules 99", "task"), ("rules 1 2", "count"), ("says 0", "count"),
                             ("says 9 x", "task"), ("follows 0", "count"), ("follows 0 x none", "task"),
                             ("slots none", "task"), ("slots a b c d e", "task"), ("good x y", "task"),
                             ("undo x", "count"), ("undo", "nothing"), ("clashes", "task"), ("ask", "task")]:
            self.refused(Desk(), line, reason)
        desk = desk_with(OTHER)
        for line, reason in [("rules 99", "plain"), ("says 9 x", "plain"), ("good 9 x", "plain"), ("theory x", "count"),
                             ("write all", "what"), ("follows 9 x", "text 1 3 word"), ("slots x", "theory unknown")]:
            self.assertEqual(desk.obey(line), ["refused " + reason])
        for word in PLAIN:
            self.assertEqual(desk.obey(FORMS[word]), ["refused plain"])
        for word in WORDS:
            fine = word in ("draft", "clear", "undo", "task")
            self.assertEqual(Desk().obey(FORMS[word]) == ["refused task"], not fine, word)


class DraftTest(DeskCase):
    def test_the_rest_is_the_line(self):
        desk = Desk()
        lines = ["draft", "draft ", "draft  x ", "draft a b  c", "draft draft"]
        self.assertEqual([desk.obey(line) for line in lines], [[f"lines {at}"] for at in range(1, 6)])
        self.assertEqual(desk.obey("write draft"), ["", "", " x ", "a b  c", "draft"])
        self.assertEqual((desk.obey("clear"), desk.obey("write draft")), (["lines 0"], []))
        self.assertEqual(desk.obey("clear"), ["lines 0"])
        self.assertEqual([desk.obey("undo") for _ in range(3)], [["undone clear"], ["undone clear"],
                                                                ["undone draft draft"]])
        self.assertEqual(desk.obey("write draft"), ["", "", " x ", "a b  c"])

    def test_three_hundred_lines(self):
        desk = Desk()
        for at in range(300):
            self.assertEqual(desk.obey(f"draft {at}"), [f"lines {at + 1}"])
        self.refused(desk, "draft x", "full")
        self.refused(desk, "draft", "full")
        self.assertEqual(desk.obey("undo"), ["undone draft 299"])
        self.assertEqual(desk.obey("draft x"), ["lines 300"])
        desk.obey("clear")
        self.assertEqual(desk.obey("draft x"), ["lines 1"])
        self.assertEqual(len(desk.journal()), 302)

    def test_the_answer_is_new(self):
        desk = desk_with(HALVES, "draft x")
        for line in ("write draft", "write task", "theory", "edges"):
            before = desk.obey(line)
            desk.obey(line).clear()
            self.assertEqual(desk.obey(line), before)
        desk.journal().clear()
        self.assertEqual(len(desk.journal()), len(rows_of(HALVES)) + 2)


class TaskTest(DeskCase):
    def test_tasks(self):
        desk = desk_with(HALVES + "good 0 goal(ann)\nbad 0 goal(dan)\nbad 0 goal(cid)\n")
        self.assertEqual(desk.obey("write task")[-3:], ["good 0 goal(ann)", "bad 0 goal(dan)", "bad 0 goal(cid)"])
        self.assertEqual(desk.obey("write draft"), [])
        self.assertEqual((desk.obey("rules 3"), desk.obey("draft x"), desk.obey("clear")), (["rules 3"], ["lines 1"],
                                                                                            ["lines 0"]))
        for row in rows_of(OTHER):
            desk.obey("draft " + row)
        self.assertEqual(desk.obey("task"), ["examples 1 0"])
        self.assertEqual(desk.obey("write task"), rows_of(OTHER))
        self.assertEqual((desk.obey("undo"), desk.obey("write draft")), (["undone task"], rows_of(OTHER)))
        self.assertEqual(desk.obey("write task")[-1], "bad 0 goal(cid)")

    def test_a_new_task_has_a_k_of_one(self):
        text = HALVES + "good 0 goal(bob)\ngood 0 goal(cid)\nbad 0 goal(dan)\n"
        desk = desk_with(text)
        self.assertEqual(desk.obey("theory")[0], "none")
        desk.obey("rules 2")
        self.assertEqual(desk.obey("theory"), ["rule goal(a) if red(a)", "rule goal(a) if big(a)"])
        for row in rows_of(text):
            desk.obey("draft " + row)
        desk.obey("task")
        self.assertEqual(desk.obey("theory")[0], "none")
        desk.obey("undo")
        self.assertEqual(len(desk.obey("theory")), 2)

    def test_each_kind_of_error(self):
        constants = "a b c d e f"
        for rows, reason in [
            ([], "text 1 1 end"),
            (["known red 1", "what"], "text 2 1 line"),
            (["known red"], "text 1 1 count"),
            (["known red 1", "unknown goal x"], "text 2 14 word"),
            (["known red 1", "unknown red 1", "names 1", "world a"], "signature twice"),
            (["known red 4", "unknown goal 1", "names 1", "world a"], "signature places"),
            (["known red 1", "unknown goal 1", "names 1", "world a a"], "world twice"),
            (["known red 1", "unknown goal 1", "names 1", "world a", "fact red(b)"], "world fact"),
            (["known red 1", "unknown goal 1", "names 1", "world a", "fact blue(a)"], "task fact"),
            (["known red 1", "unknown goal 2", "names 1", "world a"], "task names"),
            (["known red 1", "unknown goal 1", "names 1", "world a", "good 0 goal(b)"], "task example"),
            (["known red 1", "unknown goal 1", "names 1"] + ["world a"] * 5, "large worlds"),
            (["known red 3", "known big 1", "unknown goal 1", "names 4", "world a"], "large atoms"),
            (["known red 1", "unknown goal 1", "names 1", "world " + constants] +
             [f"good 0 goal({name})" for name in "abcdef"] * 2, "large examples"),
            (["known red 1", "unknown goal 1", "names 1", "world a"] + ["x" * 190] * 110, "large text"),
        ]:
            desk = Desk()
            for row in rows:
                desk.obey("draft " + row)
            self.refused(desk, "task", reason)
            self.assertEqual(desk.obey("write draft"), rows)

    def test_rules(self):
        desk = desk_with(HALVES)
        for word in ("9", "10", "01", "-1", "x", "", "1.", "123456789", "+1"):
            self.refused(desk, "rules " + word, "number")
        for word in "012345678":
            self.assertEqual(desk.obey("rules " + word), ["rules " + word])
        self.assertEqual(desk.obey("undo"), ["undone rules 8"])


class DeedTest(DeskCase):
    def test_deeds(self):
        desk = desk_with(HALVES)
        answers = [desk.obey(line) for line in ["good 0 goal(ann)", "bad 0 goal(dan)", "good 0 goal(bob)",
                                                "turn 0 goal(bob)", "remove 0 goal(ann)"]]
        self.assertEqual(answers, [["examples 1 0"], ["examples 1 1"], ["examples 2 1"], ["examples 1 2"],
                                   ["examples 0 2"]])
        self.assertEqual(desk.obey("write task")[-2:], ["bad 0 goal(dan)", "bad 0 goal(bob)"])

    def test_deeds_that_are_refused(self):
        desk = desk_with(HALVES + "good 0 goal(ann)\nbad 0 goal(dan)\n")
        for word in ("good", "bad", "remove", "turn", "says"):
            for rest, reason in [("0 goal(x)", "text 1 3 constant"), ("1 goal(ann)", "text 1 1 world"),
                                 ("0 red(ann)", "text 1 3 relation"), ("x goal(ann)", "text 1 1 word"),
                                 ("0 goal", "text 1 3 word"), ("00 goal(ann)", "text 1 1 word"), (" ", "text 1 1 word"),
                                 ("0 goal(ann,bob)", "text 1 3 relation")]:
                self.refused(desk, f"{word} {rest}", reason)
        for word in ("good", "bad"):
            for name in ("ann", "dan"):
                self.refused(desk, f"{word} 0 goal({name})", "task again")
        for word in ("remove", "turn"):
            self.refused(desk, f"{word} 0 goal(bob)", "unknown")

    def test_eight_examples(self):
        text = "known red 1\nunknown goal 1\nnames 1\n" + "world a b c d e f\nfact red(a)\n" * 3
        rows = [f"{at} goal({name})" for at in range(2) for name in "abcdef"]
        desk = desk_with(text, *["good " + row for row in rows[:8]])
        self.refused(desk, "good " + rows[8], "large examples")
        self.refused(desk, "says " + rows[8], "large examples")
        self.refused(desk, "ask", "large examples")
        self.assertEqual(desk.obey("bad " + rows[8]), ["examples 8 1"])
        self.refused(desk, "turn " + rows[8], "large examples")
        self.refused(desk, "clashes", "large examples")

    def test_undo_of_each_line(self):
        desk = desk_with(HALVES)
        lines = ["good 0 goal(ann)", "draft a", "bad 0 goal(dan)", "rules 0", "turn 0 goal(dan)", "draft", "clear",
                 "rules 2", "remove 0 goal(ann)", "draft x"]
        states = []
        for line in lines:
            states.append(all_of(desk))
            self.assertFalse(desk.obey(line)[0].startswith("refused"))
        for line in reversed(lines):
            self.assertEqual(desk.obey("undo"), ["undone " + line])
            self.assertEqual(all_of(desk), states.pop())
        self.assertEqual(desk.obey("undo"), ["undone task"])
        self.assertEqual(desk.obey("write task"), ["refused task"])
        for _ in rows_of(HALVES):
            self.assertTrue(desk.obey("undo")[0].startswith("undone draft "))
        self.refused(desk, "undo", "nothing")

    def test_undo_of_nothing(self):
        self.refused(Desk(), "undo", "nothing")
        desk = Desk()
        desk.obey("theory")
        desk.obey("good 0 x")
        self.refused(desk, "undo", "nothing")

    def test_as_if_given_the_others_alone(self):
        source = random.Random(340)
        rows = [f"0 goal({name})" for name in ("ann", "bob", "cid", "dan")]
        for _ in range(25):
            desk = desk_with(HALVES)
            for _ in range(25):
                word = source.choice(["good", "bad", "turn", "remove", "undo", "rules", "draft", "clear", "drift"])
                desk.obey({"undo": "undo", "drift": "drift", "clear": "clear", "draft": "draft y",
                           "rules": f"rules {source.randint(0, 9)}"}.get(word, f"{word} {source.choice(rows)}"))
            other = Desk()
            for line in desk.journal():
                self.assertFalse(other.obey(line)[0].startswith("refused"))
            self.assertEqual(all_of(other), all_of(desk))

    def test_the_journal(self):
        desk = desk_with(HALVES)
        begun = desk.journal()
        self.assertEqual(begun, ["draft " + row for row in rows_of(HALVES)] + ["task"])
        for line in ["good 0 goal(ann)", "good 0 goal(ann)", "theory", "rules 2", "undo", "rules 9", "draft x"]:
            desk.obey(line)
        self.assertEqual(desk.journal(), begun + ["good 0 goal(ann)", "draft x"])


class AskTest(DeskCase):
    def test_theory(self):
        desk = desk_with(HALVES)
        self.assertEqual(desk.obey("theory"), [])
        desk.obey("good 0 goal(ann)")
        self.assertEqual(desk.obey("theory"), ["rule goal(a)"])
        desk.obey("bad 0 goal(dan)")
        desk.obey("rules 0")
        self.assertEqual(desk.obey("theory"), ["none", "accepted"])

    def test_the_lots_of_a_refusal(self):
        desk = desk_with(HALVES, "good 0 goal(cid)", "good 0 goal(bob)", "bad 0 goal(dan)")
        self.assertEqual(desk.obey("theory"), ["none", "lot 0 goal(cid) and 0 goal(bob)", "accepted"])
        desk.obey("rules 2")
        self.assertEqual(desk.obey("theory"), ["rule goal(a) if big(a)", "rule goal(a) if red(a)"])
        desk.obey("turn 0 goal(dan)")
        desk.obey("bad 0 goal(ann)")
        self.assertEqual(desk.obey("theory"), [
            "none", "lot 0 goal(cid)", "lot 0 goal(bob)", "lot 0 goal(dan)", "accepted"])

    def test_least(self):
        desk = desk_with(HALVES)
        answers = [desk.obey("least")]
        for line in ("good 0 goal(bob)", "good 0 goal(cid)", "bad 0 goal(dan)", "bad 0 goal(ann)"):
            desk.obey(line)
            answers.append(desk.obey("least"))
        self.assertEqual(answers, [["least 0"], ["least 1"], ["least 1"], ["least 2"], ["least -"]])

    def test_edges(self):
        desk = desk_with(HALVES, "good 0 goal(ann)", "bad 0 goal(dan)")
        self.assertEqual(desk.obey("edges"), [
            "special goal(a) if red(a) and big(a)", "general goal(a) if red(a)", "general goal(a) if big(a)"])
        desk.obey("bad 0 goal(bob)")
        desk.obey("bad 0 goal(cid)")
        self.assertEqual(desk.obey("edges"), [
            "special goal(a) if red(a) and big(a)", "general goal(a) if red(a) and big(a)"])
        desk.obey("turn 0 goal(dan)")
        self.assertEqual(desk.obey("edges"), [])

    def test_says(self):
        desk = desk_with(HALVES, "good 0 goal(bob)", "bad 0 goal(cid)")
        rule = "goal(a) if red(a)"
        self.assertEqual([desk.obey(f"says 0 goal({name})") for name in ("ann", "bob", "cid", "dan")], [
            ["sure", "yes " + rule], ["sure", "yes " + rule], ["never", "no " + rule], ["never", "no " + rule]])
        desk = desk_with(HALVES, "good 0 goal(ann)", "bad 0 goal(dan)")
        self.assertEqual(desk.obey("says 0 goal(bob)"), ["open", "yes " + rule, "no goal(a) if big(a)"])
        desk.obey("rules 0")
        self.refused(desk, "says 0 goal(bob)", "none")
        self.refused(desk, "says 0 goal(ann)", "none")

    def test_ask(self):
        desk = desk_with(HALVES, "good 0 goal(ann)", "bad 0 goal(dan)")
        self.assertEqual(desk.obey("ask"), ["ask 0 goal(bob)"])
        desk.obey("good 0 goal(bob)")
        self.assertEqual(desk.obey("ask"), ["settled"])
        desk.obey("rules 0")
        self.refused(desk, "ask", "none")

    def test_clashes(self):
        desk = desk_with(HALVES, "good 0 goal(bob)")
        self.assertEqual(desk.obey("clashes"), ["mend nothing", "accepted"])
        desk.obey("bad 0 goal(ann)")
        self.assertEqual(desk.obey("clashes"), ["clash 0 goal(ann) and 0 goal(bob)", "mend 0 goal(ann)",
                                                "mend 0 goal(bob)", "accepted"])

    def test_drift(self):
        desk = desk_with(HALVES)
        self.assertEqual(desk.obey("drift"), [])
        book = Book(read_task(HALVES), 1)
        for line, name, truth in [("good 0 goal(ann)", "ann", True), ("bad 0 goal(dan)", "dan", False),
                                  ("bad 0 goal(bob)", "bob", False), ("bad 0 goal(cid)", "cid", False)]:
            desk.obey(line)
            book.add((0, "goal", (name,)), truth)
            self.assertEqual(desk.obey("drift"), drift_lines(book.task, book.drift()))
        self.assertEqual(desk.obey("drift"), [
            "general come goal(a) if red(a) and big(a)", "general gone goal(a) if big(a)",
            "status 0 goal(cid) open bad"])
        desk.obey("rules 0")
        book.k = 0
        self.assertEqual(desk.obey("drift"), drift_lines(book.task, book.drift()))
        self.assertEqual(desk.obey("drift")[-1], "status 0 goal(cid) none bad")
        desk.obey("undo")
        desk.obey("turn 0 goal(ann)")
        self.assertIn("least 1 0", desk.obey("drift"))
        desk.obey("remove 0 goal(dan)")
        desk.obey("turn 0 goal(bob)")
        self.assertIn("lot come 0 goal(bob)", desk.obey("drift"))
        self.assertIn("least 0 -", desk.obey("drift"))
        desk.obey("turn 0 goal(bob)")
        self.assertIn("lot gone 0 goal(bob)", desk.obey("drift"))

    def test_slots(self):
        text = HALVES + "good 0 goal(bob)\nbad 0 goal(cid)\n"
        task = read_task(text)
        desk = desk_with(text)
        for slots in (["goal"], ["goal"] * 2, ["goal"] * 4):
            first = fitting_at(task, slots, 0)
            self.assertEqual(desk.obey(" ".join(["slots", *slots])), [
                f"count {count_fitting(task, slots)}", *["rule " + write_rule(task, rule) for rule in first]])
        self.assertEqual(desk.obey("slots"), ["count 0", "refuted"])
        desk.obey("good 0 goal(dan)")
        self.assertEqual(desk.obey("slots goal goal"), ["count 0", "refuted"])
        for line, reason in [("slots goal goal goal goal goal", "large slots"), ("slots red", "theory unknown"),
                             ("slots ", "theory unknown"), ("slots goal  goal", "theory unknown")]:
            self.refused(desk, line, reason)
        self.assertEqual(desk_with(HALVES).obey("slots"), ["count 1"])

    def test_tasks_that_are_not_plain(self):
        desk = desk_with(PARITY_TEXT)
        answer = desk.obey("slots even even odd")
        self.assertEqual((len(answer), [row.split("(")[0] for row in answer[1:]]), (
            4, ["rule even", "rule even", "rule odd"]))
        self.assertEqual(desk.obey("slots even"), ["count 0", "refuted"])
        self.assertIn(desk.obey("follows 0 odd(b) even even odd"), (["sure"], ["open"], ["never"]))
        self.assertEqual(desk.obey("write task"), rows_of(write_task(read_task(PARITY_TEXT))))

    def test_follows(self):
        desk = desk_with(HALVES, "good 0 goal(bob)", "bad 0 goal(cid)")
        self.assertEqual(desk.obey("follows 0 goal(ann) goal"), ["sure"])
        self.assertEqual(desk.obey("follows 0 goal(dan) goal"), ["never"])
        desk.obey("remove 0 goal(bob)")
        self.assertEqual(desk.obey("follows 0 goal(bob) goal"), ["open"])
        desk.obey("good 0 goal(bob)")
        for line, reason in [("follows 0 goal(bob) goal", "unknown"), ("follows 0 goal(cid) none", "theory unknown"),
                             ("follows 0 goal(ann) none", "theory unknown"), ("follows 0 goal(ann)", "none"),
                             ("follows 0 goal(bob)", "unknown"), ("follows 9 goal(ann) none", "text 1 1 world"),
                             ("follows 0 goal(ann)" + " goal" * 5, "large slots"), ("follows 0  goal", "text 1 3 word"),
                             ("follows 0 goal(eve) goal", "text 1 3 constant")]:
            self.refused(desk, line, reason)

    def test_write(self):
        text = "known tie 2\nunknown goal 1\nnames 2\nrule tie(b,a) if tie(a,b)\nworld b a\nfact tie(a,b)\nworld x\n"
        desk = desk_with(text, "good 1 goal(x)", "draft one", "draft ", "bad 0 goal(a)")
        self.assertEqual(desk.obey("write task"), rows_of(text) + ["good 1 goal(x)", "bad 0 goal(a)"])
        self.assertEqual(desk.obey("write draft"), ["one", ""])

    def test_answers_of(self):
        self.assertEqual(answers_of([]), [])
        lines = ["draft a", "write draft", "undo", "undo", "x", "clear"]
        self.assertEqual(answers_of(lines), [["lines 1"], ["a"], ["undone draft a"], ["refused nothing"],
                                             ["refused word"], ["lines 0"]])
        self.assertEqual(answers_of(lines), answers_of(lines))
        self.invalid(InvalidLine, "length", answers_of, ["draft a", "x" * 201])


class KeepTest(Case):
    def test_what_is_written(self):
        keep = Keep()
        desk = Desk()
        for line in ["draft x", "undo", "undo", "theory", "write draft", "draft", "clear", "word", "task", "draft a b"]:
            self.assertEqual(keep.obey(line), desk.obey(line))
        self.assertEqual(keep.text(), "draft x\nundo\ndraft\nclear\ndraft a b\n")

    def test_lost_and_off(self):
        text = "".join(f"draft {row}\n" for row in rows_of(HALVES)) + "task\n"
        keep = Keep(text)
        keep.fail(17)
        self.assertEqual(keep.obey("good 0 goal(ann)"), ["examples 1 0"])
        self.assertEqual([keep.obey(line) for line in ("theory", "draft x", "undo", "", "write draft")], [["off"]] * 5)
        keep.open_again()
        self.assertEqual((keep.obey("theory"), keep.text()), (["rule goal(a)"], text + "good 0 goal(ann)\n"))
        keep.fail(16)
        self.assertEqual(keep.obey("bad 0 goal(ann)"), ["refused task again"])
        self.assertEqual(keep.obey("bad 0 goal(dan)"), ["examples 1 1"])
        self.assertEqual(keep.obey("theory"), ["off"])
        keep.open_again()
        keep.fail(3)
        self.assertEqual((keep.obey("edges")[0], keep.obey("rules 2"), keep.obey("rules 2")), (
            "special goal(a) if red(a) and big(a)", ["lost"], ["off"]))
        keep.open_again()
        keep.open_again()
        self.assertEqual(keep.obey("undo"), ["undone bad 0 goal(dan)"])
        self.assertEqual(keep.obey("undo"), ["undone good 0 goal(ann)"])
        keep.fail(0)
        self.assertEqual(keep.obey("undo"), ["off"])
        keep.fail(99)
        self.assertEqual(keep.obey("undo"), ["off"])
        keep.open_again()
        self.assertEqual(keep.obey("undo"), ["undone task"])

    def test_what_is_lost_is_not_there_behind_opening(self):
        keep = Keep()
        keep.obey("draft a")
        keep.fail(3)
        self.assertEqual((keep.obey("undo"), keep.text()), (["lost"], "draft a\nund"))
        keep.open_again()
        self.assertEqual((keep.obey("write draft"), keep.text()), (["a"], "draft a\n"))

    def test_a_text_to_begin_with(self):
        self.assertEqual(Keep("draft a\ndraft b\nundo\ndraft c").obey("write draft"), ["a"])
        self.assertEqual(Keep("theory\nnothing\n\ndraft a\ntask\n").obey("write draft"), ["a"])
        self.assertEqual(Keep("theory\nx").text(), "theory\n")
        self.assertEqual(Keep(text="draft a\n").text(), "draft a\n")

    def test_wrong_texts_and_lines(self):
        long = "draft " + "x" * 195
        for text in (long + "\n", "draft a\n" + long + "\nx", "a" * 900 + "\n"):
            self.invalid(InvalidLine, "length", Keep, text)
        self.assertEqual(Keep("draft a\n" + long).obey("write draft"), ["a"])
        self.assertEqual(Keep(long[:-1] + "\n").obey("write draft"), [long[6:-1]])
        for text in ("\t\n", "a\t", long + "\n\t", "\xe9\n"):
            self.invalid(InvalidLine, "character", Keep, text)
        keep = Keep()
        for _ in range(2):
            self.invalid(InvalidLine, "length", keep.obey, long)
            self.invalid(InvalidLine, "length", keep.obey, "\t" * 201)
            self.invalid(InvalidLine, "character", keep.obey, "draft \t")
            self.invalid(InvalidLine, "character", keep.obey, "draft a\n")
            keep.fail(0)
        self.assertEqual((keep.text(), keep.obey("draft a")), ("", ["off"]))

    def test_random_courses(self):
        source = random.Random(341)
        begin = "".join(f"draft {row}\n" for row in rows_of(HALVES)) + "task\n"
        rows = [f"0 goal({name})" for name in ("ann", "bob", "cid", "dan")]
        asks = ["theory", "write task", "write draft", "least", "drift"]
        for at in range(40):
            keep = Keep(begin if at % 2 else "")
            obeyed = rows_of(begin) if at % 2 else []
            for _ in range(25):
                choice = source.random()
                if choice < 0.15:
                    keep.fail(source.randint(0, 40))
                elif choice < 0.3:
                    keep.open_again()
                    self.same(keep, obeyed, asks)
                else:
                    line = source.choice(["undo", "draft x", "clear", "rules 2", "task", "theory",
                                          *[word + " " + source.choice(rows) for word in ("good", "bad", "turn")]])
                    answer = keep.obey(line)
                    if answer not in (["off"], ["lost"]) and line != "theory" and not answer[0].startswith("refused"):
                        obeyed.append(line)
            keep.open_again()
            self.same(keep, obeyed, asks)
            self.same(Keep(keep.text()), obeyed, asks)

    def same(self, keep, obeyed, asks):
        """The keep is as a desk that was given these lines."""
        desk = Desk()
        for line in obeyed:
            desk.obey(line)
        self.assertEqual([keep.obey(line) for line in asks], [desk.obey(line) for line in asks])
        self.assertEqual(keep.text(), "".join(line + "\n" for line in obeyed))
