"""The lines of point 81, and the interface of fewrules/report.py."""

import random

from fewrules.book import drift
from fewrules.clashes import all_examples, diagnosis, numbers_of
from fewrules.report import diagnosis_lines, drift_lines, examples_text, rule_lines
from fewrules.texts import read_task, write_example, write_rule
from tests.plain_support import HALVES, task_of
from tests.support import Case
from tests.test_clashes import small_task
from tests.test_says import with_lists


class ReportTest(Case):
    def test_examples(self):
        task = task_of(HALVES, ["bob", "ann"], ["dan"])
        self.assertEqual(examples_text(task, ()), "nothing")
        self.assertEqual(examples_text(task, (2,)), "0 goal(cid)")
        self.assertEqual(examples_text(task, numbers_of(task)), "0 goal(ann) and 0 goal(bob) and 0 goal(dan)")
        self.assertEqual(examples_text(task, (3, 0)), "0 goal(dan) and 0 goal(ann)")

    def test_rules(self):
        task = read_task("known tie 2\nunknown way 2\nunknown end 1\nnames 3 calls\nworld a\n")
        rules = [("way", (1,)), ("end", ()), ("way", (2, 16))]
        self.assertEqual(rule_lines(task, "rule", rules), [
            "rule way(a,b) if tie(a,b)", "rule end(a)", "rule way(a,b) if tie(a,c) and way(c,b)"])
        self.assertEqual(rule_lines(task, "yes", []), [])
        self.assertEqual(rules, [("way", (1,)), ("end", ()), ("way", (2, 16))])

    def test_each_row_of_a_drift(self):
        task = task_of(HALVES, ["bob"], ["dan"])
        rows = [("lot", (1, 2), True), ("lot", (0,), False), ("special", (0,), True), ("special", (), False),
                ("general", (0, 1), True), ("general", (1,), False), ("least", None, 2), ("least", 0, None),
                ("status", (0, "goal", ("cid",)), "sure", "none")]
        self.assertEqual(drift_lines(task, rows), [
            "lot come 0 goal(bob) and 0 goal(cid)", "lot gone 0 goal(ann)", "special come goal(a) if red(a)",
            "special gone goal(a)", "general come goal(a) if red(a) and big(a)", "general gone goal(a) if big(a)",
            "least - 2", "least 0 -", "status 0 goal(cid) sure none"])
        self.assertEqual(drift_lines(task, []), [])

    def test_a_diagnosis(self):
        told = ([((0, 1), None), ((2,), None)], [((0, 2), []), ((), [])])
        self.assertEqual(diagnosis_lines(task_of(HALVES), told), [
            "clash 0 goal(ann) and 0 goal(bob)", "clash 0 goal(cid)", "mend 0 goal(ann) and 0 goal(cid)",
            "mend nothing"])

    def test_all_that_is_told_of_tasks(self):
        source = random.Random(330)
        for at in range(30):
            task = small_task(source, at)
            other = with_lists(task, task.good[1:], task.bad)
            rows = drift(task, other, 1)
            lines = drift_lines(task, rows)
            self.assertEqual(len(lines), len(rows))
            for row, line in zip(rows, lines):
                self.assertEqual(line.split(" ")[0], row[0])
                if row[0] == "status":
                    self.assertEqual(line, f"status {write_example(row[1])} {row[2]} {row[3]}")
                if row[0] in ("special", "general"):
                    self.assertTrue(line.endswith(write_rule(task, ("goal", row[1]))))
                if row[0] == "lot":
                    self.assertEqual(line.count(" and ") + 1, len(row[1]))
                    self.assertIn(write_example(all_examples(task)[row[1][-1]]), line)
            told = diagnosis(task, 1)
            self.assertEqual(len(diagnosis_lines(task, told)), len(told[0]) + len(told[1]))
