"""Points 18 to 21, and the interface of fewrules/texts.py."""

from fewrules.errors import InvalidSignature, InvalidTask, InvalidWorld, TextError
from fewrules.tasks import Signature, Task
from fewrules.texts import read_example, read_rule, read_task, read_theory
from fewrules.texts import write_example, write_rule, write_task, write_theory
from fewrules.worlds import World
from tests.support import Case, many_facts, simple_task

FULL = """\
known red 1
known tie 2
unknown goal 1
unknown way 2
names 3 calls
rule tie(b,a) if tie(a,b)
rule red(d) if tie(c,d) and red(c)
world bob ann
fact red(ann)
fact tie(bob,ann)
fact tie(ann,bob)
world cid
good 0 goal(ann)
good 1 way(cid,cid)
bad 0 way(bob,bob)
"""
HEAD = "known red 1\nknown tie 2\nunknown goal 1\nnames 2\n"
SHORT = HEAD + "world ann bob\n"


class TextCase(Case):
    def wrong(self, line, column, reason, call, *rest):
        self.raises(TextError, {"line": line, "column": column, "reason": reason}, call, *rest)

    def wrong_task(self, line, column, reason, text):
        self.wrong(line, column, reason, read_task, text)


class WorkedTest(TextCase):
    def test_the_worked_example(self):
        text = "known edge 2\nunknown path 2\nnames 3 calls\nworld ann bob\nfact edge(ann,bob)\ngood 0 path(ann,bob)\n"
        task = read_task(text)
        self.assertEqual(read_rule(task, "path(a,b) if path(c,b) and edge(a,c)"), ("path", (2, 16)))
        self.assertEqual(write_rule(task, ("path", ())), "path(a,b)")


class ReadTaskTest(TextCase):
    def test_a_full_text(self):
        task = read_task(FULL)
        self.assertEqual(task.signature.known, [("red", 1), ("tie", 2)])
        self.assertEqual(task.signature.unknown, [("goal", 1), ("way", 2)])
        self.assertEqual((task.names, task.calls), (3, True))
        self.assertEqual(task.background, [
            (("tie", (1, 0)), [("tie", (0, 1))]),
            (("red", (3,)), [("tie", (2, 3)), ("red", (2,))]),
        ])
        self.assertEqual([world.constants for world in task.worlds], [["bob", "ann"], ["cid"]])
        facts = [("red", ("ann",)), ("tie", ("bob", "ann")), ("tie", ("ann", "bob"))]
        self.assertEqual([world.facts for world in task.worlds], [facts, []])
        self.assertEqual(task.good, [(0, "goal", ("ann",)), (1, "way", ("cid", "cid"))])
        self.assertEqual(task.bad, [(0, "way", ("bob", "bob"))])

    def test_the_shortest_text(self):
        task = read_task("known red 1\nunknown goal 1\nnames 1\nworld a")
        self.assertEqual((task.calls, task.background, task.good, task.bad), (False, [], [], []))
        self.assertEqual((task.worlds[0].constants, task.worlds[0].facts), (["a"], []))

    def test_bad_examples_without_good_ones(self):
        self.assertEqual(read_task(SHORT + "bad 0 goal(ann)\n").bad, [(0, "goal", ("ann",))])
        self.assertEqual(read_task(SHORT + "fact red(ann)\nbad 0 goal(ann)\n").bad, [(0, "goal", ("ann",))])

    def test_written_and_read_again(self):
        self.assertEqual(write_task(read_task(FULL)), FULL)
        for text in [SHORT, SHORT + "bad 0 goal(ann)\n", HEAD + "world a\nworld b\nfact red(b)\ngood 1 goal(b)\n"]:
            self.assertEqual(write_task(read_task(text)), text)

    def test_facts_in_another_order(self):
        rows = ["fact red(ann)\n", "fact tie(bob,ann)\n", "fact tie(ann,bob)\n"]
        for order in [(1, 0, 2), (2, 1, 0), (1, 2, 0)]:
            text = FULL.replace("".join(rows), "".join(rows[at] for at in order))
            self.assertNotEqual(text, FULL)
            self.assertEqual(write_task(read_task(text)), FULL)

    def test_the_facts_that_were_given_are_written_and_no_closed_ones(self):
        text = HEAD + "rule red(a) if tie(a,b)\nworld ann bob\nfact tie(ann,bob)\n"
        task = read_task(text)
        self.assertEqual(len(task.closed[0]), 2)
        self.assertEqual(write_task(task), text)

    def test_a_constructed_task_is_written(self):
        world = World(["bob", "ann"], [("tie", ("ann", "bob")), ("red", ("bob",)), ("tie", ("bob", "bob"))])
        rules = [(("tie", (3, 1)), [("red", (3,)), ("red", (1,))])]
        task = Task(Signature([("tie", 2), ("red", 1)], [("goal", 1)]), rules, [world], 4,
                    good=[(0, "goal", ("bob",))], bad=[(0, "goal", ("ann",))])
        self.assertEqual(write_task(task), (
            "known tie 2\nknown red 1\nunknown goal 1\nnames 4\nrule tie(d,b) if red(d) and red(b)\nworld bob ann\n"
            "fact tie(bob,bob)\nfact tie(ann,bob)\nfact red(bob)\ngood 0 goal(bob)\nbad 0 goal(ann)\n"))

    def test_a_world_as_names_of_its_own_and_constants_like_words_of_the_text(self):
        task = read_task("known if 1\nunknown and 1\nnames 1\nrule if(a) if if(a)\nworld world fact\nfact if(fact)\n")
        self.assertEqual(task.worlds[0].facts, [("if", ("fact",))])


def text_of(length):
    """The text of a task of so many characters: a long rule, and a constant of 1 to 11 letters."""
    head = "known red 1\nunknown goal 1\nnames 1\nrule red(a) if red(a)"
    spare = length - len(head + "\nworld x\n")
    return head + " and red(a)" * (spare // 11) + "\nworld x" + "x" * (spare % 11) + "\n"


class LengthTest(TextCase):
    def test_20000_and_20001_characters(self):
        self.assertEqual((len(text_of(20000)), len(text_of(20001))), (20000, 20001))
        self.assertEqual(write_task(read_task(text_of(20000))), text_of(20000))
        self.large("text", read_task, text_of(20001))

    def test_the_length_comes_first(self):
        self.wrong_task(1, 1, "line", "\n" * 20000)
        self.large("text", read_task, "\n" * 20001)


class LineTest(TextCase):
    """Reason "line": which words may stand behind which."""

    LINES = {
        "known": "known p 1", "unknown": "unknown q 1", "names": "names 1", "rule": "rule red(a) if red(a)",
        "world": "world x", "fact": "fact red(ann)", "good": "good 0 goal(ann)", "bad": "bad 0 goal(bob)",
    }
    AHEAD = {
        "": ["known"],
        "known": ["known", "unknown"],
        "unknown": ["unknown", "names"],
        "names": ["rule", "world"],
        "rule": ["rule", "world"],
        "world": ["world", "fact", "good", "bad"],
        "fact": ["world", "fact", "good", "bad"],
        "good": ["good", "bad"],
        "bad": ["bad"],
    }
    WAY = ["known red 1", "unknown goal 1", "names 1", "rule red(a) if red(a)", "world ann bob", "fact red(bob)",
           "good 0 goal(ann)", "bad 0 goal(bob)"]

    def test_all_pairs(self):
        for word, allowed in self.AHEAD.items():
            upto = [line.split(" ")[0] for line in self.WAY].index(word) + 1 if word else 0
            for other, line in self.LINES.items():
                text = "\n".join([*self.WAY[:upto], line, "none"])
                with self.subTest(ahead=word, behind=other):
                    # The last line is wrong in any case: behind an allowed line it is the first wrong one.
                    self.wrong_task(upto + 1 + (other in allowed), 1, "line", text)

    def test_first_words_that_are_none(self):
        for line in ["", " ", " fact red(ann)", "Fact red(ann)", "facts red(ann)", "fact\tred(ann)", "# note", "end"]:
            self.wrong_task(6, 1, "line", SHORT + line + "\n")
            self.wrong_task(1, 1, "line", line + "\n" + SHORT)

    def test_the_order_of_reasons(self):
        self.wrong_task(6, 1, "line", SHORT + "known 0 0 0")
        self.wrong_task(6, 1, "count", SHORT + "good x y z")
        self.wrong_task(6, 6, "word", SHORT + "good x y")

    def test_the_first_line_with_an_error_is_told(self):
        self.wrong_task(2, 11, "word", "known red 1\nknown tie x\nnone\n")
        self.wrong_task(1, 1, "count", "known red\nnone\n")
        self.wrong_task(6, 6, "word", SHORT + "fact red\nfact\nnone\n")

    def test_end(self):
        self.wrong_task(1, 1, "end", "")
        self.wrong_task(2, 1, "end", "known red 1")
        self.wrong_task(2, 1, "end", "known red 1\n")
        self.wrong_task(3, 1, "end", "known red 1\nunknown goal 1\n")
        self.wrong_task(5, 1, "end", HEAD)
        self.wrong_task(6, 1, "end", HEAD + "rule red(a) if red(a)")
        self.wrong_task(6, 1, "end", HEAD + "rule red(a) if red(a)\n")

    def test_a_world_of_which_the_line_is_wrong(self):
        self.wrong_task(5, 1, "count", HEAD + "world")
        self.wrong_task(5, 7, "word", HEAD + "world ")


class CountTest(TextCase):
    def test_numbers_of_words(self):
        for ahead, lines in [
            ("", ["known", "known red", "known red 1 1", "known red 1 ", "known  red 1"]),
            ("known red 1\n", ["unknown", "unknown goal", "unknown goal 1 1"]),
            ("known red 1\nunknown goal 1\n", ["names", "names 1 calls calls", "names 1 calls "]),
            (HEAD, ["rule", "rule red(a)", "rule red(a) if", "rule red(a) if red(a) and", "rule red(a) if red(a) "]),
            (HEAD, ["world"]),
            (SHORT, ["fact", "fact red(ann) red(bob)", "fact red(ann) "]),
            (SHORT, ["good", "good 0", "good goal(ann)", "good 0 goal(ann) goal(bob)", "bad", "bad 0", "bad 0 a b"]),
        ]:
            for line in lines:
                with self.subTest(line):
                    self.wrong_task(ahead.count("\n") + 1, 1, "count", ahead + line + "\n")


class WordTest(TextCase):
    def test_words_of_relations(self):
        for line, column in [
            ("known Red 1", 7), ("known abcdefghijklm 1", 7), ("known  1", 7), ("known red x", 11),
            ("known red 01", 11),
            ("known red 1234567890", 11), ("known red ", 11), ("known RED x", 7), ("known red -1", 11),
        ]:
            self.wrong_task(1, column, "word", line + "\n")
        self.wrong_task(2, 9, "word", "known red 1\nunknown Goal 1\n")
        self.wrong_task(2, 14, "word", "known red 1\nunknown goal one\n")

    def test_words_of_names(self):
        head = "known red 1\nunknown goal 1\n"
        for line, column in [("names x", 7), ("names ", 7), ("names 2 call", 9), ("names 2 ", 9), ("names 2 Calls", 9),
                             ("names x call", 7), ("names 02", 7)]:
            self.wrong_task(3, column, "word", head + line + "\n")

    def test_words_of_rules(self):
        for line, column in [
            ("rule red if red(a)", 6), ("rule red(e) if red(a)", 6), ("rule red(a) is red(a)", 13),
            ("rule red(a) and red(a)", 13), ("rule red(a) if red(aa)", 16), ("rule red(a) if tie(a,e)", 16),
            ("rule red(a) if red(a) if red(a)", 23), ("rule red(a) if red(a) and tie(a,e)", 27),
            ("rule red(ann) if red(ann)", 6), ("rule red(ab) if red(a)", 6), ("rule red() if red(a)", 6),
            ("rule red(a) if red(a) an red(e)", 23), ("rule  if red(a)", 6), ("rule red(a) if tie(a,)", 16),
        ]:
            with self.subTest(line):
                self.wrong_task(5, column, "word", HEAD + line + "\n")

    def test_words_of_worlds_and_facts(self):
        for line, column in [("world Ann", 7), ("world ann  bob", 11), ("world ann bob ", 15), ("world ann b2", 11)]:
            self.wrong_task(5, column, "word", HEAD + line + "\n")
        for line in ["fact red", "fact ", "fact red()", "fact red(ann", "fact red(Ann)", "fact Red(ann)"]:
            self.wrong_task(6, 6, "word", SHORT + line + "\n")

    def test_words_of_examples(self):
        for word, start in [("good", 6), ("bad", 5)]:
            for rest, column in [("x goal(ann)", 0), ("00 goal(ann)", 0), ("-1 goal(ann)", 0), ("0 goal", 2),
                                 ("10 goal(ann))", 3), (" goal(ann)", 0), ("0 ", 2), ("x goal", 0)]:
                self.wrong_task(6, start + column, "word", SHORT + word + " " + rest + "\n")

    def test_other_signs_at_the_end_of_a_line(self):
        self.wrong_task(4, 7, "word", SHORT.replace("names 2", "names 2\r"))
        self.wrong_task(5, 11, "word", SHORT.replace("bob", "bob\t"))


class ConstructionTest(TextCase):
    """Errors of the construction are raised as they are: the signature, the worlds in order, the task."""

    def test_signature(self):
        for text, reason in [
            (SHORT.replace("known tie 2", "known red 2"), "twice"),
            (SHORT.replace("known tie 2", "known tie 4"), "places"),
            (SHORT.replace("goal 1", "goal 0"), "places"),
            ("known pa 1\n" * 7 + "unknown goal 1\nnames 1\nworld a\n", "count"),
            ("known pa 1\n" + "unknown goal 1\n" * 4 + "names 1\nworld a\n", "count"),
        ]:
            self.invalid(InvalidSignature, reason, read_task, text)

    def test_worlds(self):
        for text, reason in [
            (HEAD + "world a b c d e f g\n", "constants"),
            (HEAD + "world a b a\n", "twice"),
            (SHORT + "fact red(cid)\n", "fact"),
            (SHORT + "fact red(ann)\nfact red(ann)\n", "again"),
            (SHORT + "fact red(ann)\nfact red(ann)\nworld a a\n", "again"),
        ]:
            self.invalid(InvalidWorld, reason, read_task, text)
        lines = ["fact big(" + ",".join(row) + ")\n" for _, row in many_facts(201)]
        head = "known big 3\nunknown goal 1\nnames 1\nworld a b c d e f\n"
        self.assertEqual(len(read_task(head + "".join(lines[:200])).closed[0]), 200)
        self.large("facts", read_task, head + "".join(lines))

    def test_task(self):
        for text, reason in [
            (SHORT + "fact goal(ann)\n", "fact"),
            (SHORT + "fact red(ann,bob)\n", "fact"),
            (HEAD + "rule goal(a) if red(a)\nworld a\n", "rule"),
            (HEAD + "rule red(a) if red(b)\nworld a\n", "rule"),
            (SHORT.replace("names 2", "names 5"), "names"),
            (SHORT.replace("names 2", "names 0"), "names"),
            (SHORT + "good 1 goal(ann)\n", "example"),
            (SHORT + "good 999999999 goal(ann)\n", "example"),
            (SHORT + "good 0 goal(cid)\n", "example"),
            (SHORT + "bad 0 red(ann)\n", "example"),
            (SHORT + "good 0 goal(ann)\nbad 0 goal(ann)\n", "again"),
        ]:
            self.invalid(InvalidTask, reason, read_task, text)
        self.large("worlds", read_task, HEAD + "world a\n" * 5)
        self.large("rules", read_task, HEAD + "rule red(a) if red(a)\n" * 21 + "world a\n")
        self.large("examples", read_task, SHORT + "good 0 goal(ann)\n" * 9)
        self.large("atoms", read_task, "known big 3\nknown red 1\nunknown goal 1\nnames 4\nworld a\n")

    def test_the_order(self):
        wrong = "known red 1\nknown red 1\nunknown goal 1\nnames 9\nworld a a\n"
        self.invalid(InvalidSignature, "twice", read_task, wrong)
        self.invalid(InvalidWorld, "twice", read_task, wrong.replace("known red 1\n", "", 1))
        self.invalid(InvalidTask, "names", read_task, wrong.replace("known red 1\n", "", 1).replace("a a", "a"))
        self.wrong_task(6, 1, "line", wrong + "none")


class RuleTest(TextCase):
    def setUp(self):
        self.task = read_task(FULL)
        self.plain = read_task(SHORT)

    def test_rules_are_read(self):
        for text, rule in [
            ("goal(a)", ("goal", ())),
            ("way(a,b)", ("way", ())),
            ("goal(a) if red(a)", ("goal", (0,))),
            ("goal(a) if red(c) and red(a)", ("goal", (0, 2))),
            ("way(a,b) if way(b,a) and goal(c) and tie(c,c) and red(b)", ("way", (1, 11, 14, 18))),
        ]:
            self.assertEqual(read_rule(self.task, text), rule)

    def test_rules_are_written(self):
        for rule, text in [
            (("goal", ()), "goal(a)"),
            (("goal", (0,)), "goal(a) if red(a)"),
            (("way", (1, 11, 14, 18)), "way(a,b) if red(b) and tie(c,c) and goal(c) and way(b,a)"),
        ]:
            self.assertEqual(write_rule(self.task, rule), text)
            self.assertEqual(read_rule(self.task, text), rule)

    def test_four_names(self):
        task = simple_task(names=4)
        self.assertEqual(write_rule(task, ("goal", (3, 19))), "goal(a) if red(d) and tie(d,d)")
        self.assertEqual(read_rule(task, "goal(a) if tie(d,d) and red(d)"), ("goal", (3, 19)))

    def test_count(self):
        for text in ["goal(a) if", "goal(a) red(a)", "goal(a) ", " goal(a)", "goal(a) if red(a) and", "x y z w", " "]:
            self.wrong(1, 1, "count", read_rule, self.task, text)

    def test_word(self):
        for text, column in [
            ("", 1), ("goal", 1), ("goal(a", 1), ("goal(A)", 1), ("goal(a) is red(a)", 9), ("goal(a) and red(a)", 9),
            ("goal(a) if red", 12), ("goal(a) if red(a) if red(b)", 19), ("goal(a) if red(a) and red", 23),
            ("  ", 1), ("goal(a)  red(a)", 9), ("none(a) is red", 9), ("goal if none", 1), ("goal(a)\n", 1),
            ("goal(a) if red(a) or red(none", 19), ("goal(a) if red(1)", 12),
        ]:
            self.wrong(1, column, "word", read_rule, self.task, text)

    def test_head(self):
        for text in ["none(a)", "red(a)", "goal(b)", "goal(a,b)", "way(a)", "way(b,a)", "way(a,a)", "way(a,c)",
                     "goal(ann)", "goal(aa)", "way(a,b,c)", "goal(b) if none(a)", "tie(a,b) if red(a) and red(a)"]:
            self.wrong(1, 1, "head", read_rule, self.task, text)

    def test_atom(self):
        for text, column in [
            ("goal(a) if none(a)", 12), ("goal(a) if red(d)", 12), ("goal(a) if red(a,b)", 12),
            ("goal(a) if tie(a)", 12),
            ("goal(a) if red(ann)", 12), ("goal(a) if red(ab)", 12), ("goal(a) if red(a) and red(e)", 23),
            ("goal(a) if red(a) and red(a) and none(a) and red(d)", 34),
        ]:
            self.wrong(1, column, "atom", read_rule, self.task, text)
        self.wrong(1, 12, "atom", read_rule, self.plain, "goal(a) if goal(b)")
        self.wrong(1, 12, "atom", read_rule, self.plain, "goal(a) if red(c)")

    def test_twice(self):
        for text, column in [
            ("goal(a) if red(a) and red(a)", 23),
            ("goal(a) if red(a) and tie(a,b) and red(a) and tie(a,b)", 36),
            ("goal(a) if goal(a) and goal(a)", 24),
        ]:
            self.wrong(1, column, "twice", read_rule, self.task, text)

    def test_the_head_in_the_body_is_not_twice(self):
        self.assertEqual(read_rule(self.task, "goal(a) if goal(a)"), ("goal", (12,)))


class TheoryTest(TextCase):
    def setUp(self):
        self.task = read_task(FULL)

    def test_theories(self):
        lines = ["way(a,b) if tie(a,b)", "goal(a)", "goal(a)"]
        rules = [("way", (4,)), ("goal", ()), ("goal", ())]
        self.assertEqual(read_theory(self.task, lines), rules)
        self.assertEqual(write_theory(self.task, rules), lines)
        self.assertEqual((read_theory(self.task, []), write_theory(self.task, [])), ([], []))

    def test_errors_have_the_number_of_the_line(self):
        for lines, line, column, reason in [
            ([""], 1, 1, "word"),
            (["goal(a)", "goal(a) if"], 2, 1, "count"),
            (["goal(a)", "goal(a)", "goal(b)", "goal(a) if"], 3, 1, "head"),
            (["goal(a)", "goal(a) if red(e)"], 2, 12, "atom"),
            (["goal(a)", "goal(a) if red(a) and red(a)", "x"], 2, 23, "twice"),
        ]:
            self.wrong(line, column, reason, read_theory, self.task, lines)

    def test_what_is_passed_stays(self):
        lines = ["goal(a) if red(b) and red(a)"]
        rules = read_theory(self.task, lines)
        write_theory(self.task, rules)
        self.assertEqual((lines, rules), (["goal(a) if red(b) and red(a)"], [("goal", (0, 1))]))


class ExampleTest(TextCase):
    def setUp(self):
        self.task = read_task(FULL)

    def test_examples(self):
        for text, example in [
            ("0 goal(ann)", (0, "goal", ("ann",))),
            ("0 goal(bob)", (0, "goal", ("bob",))),
            ("1 way(cid,cid)", (1, "way", ("cid", "cid"))),
        ]:
            self.assertEqual(read_example(self.task, text), example)
            self.assertEqual(write_example(example), text)

    def test_three_places(self):
        self.assertEqual(write_example((3, "big", ("a", "b", "a"))), "3 big(a,b,a)")

    def test_errors(self):
        for text, column, reason in [
            ("", 1, "count"), ("0", 1, "count"), ("0 goal(ann) ", 1, "count"), (" 0 goal(ann)", 1, "count"),
            ("x y z", 1, "count"),
            ("x goal(ann)", 1, "word"), ("00 goal(ann)", 1, "word"), (" goal(ann)", 1, "word"), ("0 goal", 3, "word"),
            ("x goal", 1, "word"), ("10 ", 4, "word"), ("0 goal(ann)\n", 3, "word"),
            ("2 goal(ann)", 1, "world"), ("2 none(none)", 1, "world"), ("999999999 goal(ann)", 1, "world"),
            ("0 none(ann)", 3, "relation"), ("0 red(ann)", 3, "relation"), ("0 goal(ann,ann)", 3, "relation"),
            ("0 way(ann)", 3, "relation"), ("0 goal(x,y)", 3, "relation"),
            ("0 goal(cid)", 3, "constant"), ("1 goal(ann)", 3, "constant"), ("0 way(ann,cid)", 3, "constant"),
        ]:
            self.wrong(1, column, reason, read_example, self.task, text)
