"""The names, arguments and files of the interface, as far as it is built; points 3 to 5 for all of it."""

import inspect
import unittest
from importlib import import_module

FUNCTIONS = {
    "tasks": ["atoms_of(task)", "is_plain(task)", "is_body(task, body)", "is_example(task, example)"],
    "fillings": ["fillings(task, example)", "set_of(task, world, filling)", "sets_of(task, example)",
                 "covers(task, body, example)"],
    "words": ["words_of(line)", "is_name(word)", "is_numeral(word)", "atom_of(word)"],
    "texts": ["read_task(text)", "write_task(task)", "read_rule(task, text)", "write_rule(task, rule)",
              "read_theory(task, lines)", "write_theory(task, rules)", "read_example(task, text)",
              "write_example(example)"],
    "closure": ["closing(signature, rules, world)", "derivation(rules, world)",
                "accepts_derivation(rules, world, told)", "is_whole(rules, world, told)", "missing_fact(rules, world)"],
    "folds": ["closure_of(task, body)", "fold_of(task, rule, other)", "accepts_fold(task, rule, other, fold)"],
    "calls": ["least_set(task, theory, world)", "stages_of(task, theory, world)",
              "accepts_stages(task, theory, world, stages)", "is_closed(task, theory, world, facts)",
              "theory_fits(task, theory)"],
    "alike": ["is_general(task, rule, other)", "are_alike(task, rule, other)", "parting(task, rule, other)",
              "accepts_parting(task, rule, other, told)", "core_of(task, rule)", "groups(task, rules)"],
    "meets": ["greatest(sets)", "meet(first, second)", "greatest_meets(task)"],
    "transversals": ["least(sets)", "meets_all(body, sets)", "least_transversals(sets)", "lacks(task)"],
    "edges": ["fits(task, body)", "most_special(task)", "most_general(task)", "between(task, body)"],
    "tables": ["none_table(task, lot)", "judge_table(task, lot, table)"],
    "lots": ["is_easy(task, lot)", "hard_lots(task)", "lot_paper(task)", "judge_lots(task, paper)"],
    "colours": ["least_colouring(count, lots, k)", "colour_tree(count, lots, k)", "judge_colours(count, lots, k, tree)",
                "greatest_crowd(count, lots)"],
    "theories": ["theory(task, k)", "least_k(task)", "refusal(task, k)", "judge_theory(task, rules)",
                 "judge_refusal(task, k, told)"],
    "says": ["with_example(task, example, truth)", "witnesses(task, k, example)", "says(task, k, example)",
             "candidates(task)", "open_examples(task, k)"],
    "boxes": ["search(task, slots)", "chart(task, slots)", "accepts_tree(task, slots, tree)",
              "accepts_refutation(task, slots, tree)", "boxes_of(task, slots, tree)"],
    "ranges": ["count_fitting(task, slots)", "fitting_at(task, slots, number)", "number_of(task, slots, theory)",
               "edge_theories(task, slots)", "says(task, slots, example)",
               "accepts_saying(task, slots, example, saying)"],
    "marbles": ["keeping_list(task, first, second)", "is_keeping(task, first, second, pairs)",
                "is_kept(task, example, other)", "first_kept(task)"],
    "programs": ["facts_of(task, program, world)", "rows_of(task, program, world, table)",
                 "program_fits(task, program)", "made_program(task)", "paper(task)", "accepts_paper(task, told)",
                 "helper_says(task, example)"],
    "clashes": ["all_examples(task)", "numbers_of(task)", "part_task(task, numbers)", "numbered_lots(task)",
                "clashes(task, k)", "mends(task, k)", "diagnosis(task, k)", "judge_diagnosis(task, k, told)"],
    "book": ["status(task, k, example)", "drift(before, behind, k)"],
    "report": ["examples_text(task, numbers)", "rule_lines(task, word, rules)", "drift_lines(task, rows)",
               "diagnosis_lines(task, told)"],
    "desk": ["answers_of(lines)"],
}
CLASSES = {
    "errors": ["TextError(line, column, reason)", "TooLarge(limit)", "InvalidSignature(reason)", "InvalidWorld(reason)",
               "InvalidTask(reason)", "InvalidBody(reason)", "InvalidTheory(reason)", "UnknownExample(example)",
               "InvalidLine(reason)"],
    "worlds": ["World(constants, facts)"],
    "tasks": ["Signature(known, unknown)",
              "Task(signature, background, worlds, names, *, good, bad, calls=False)"],
    "asks": ["Session(task, k)"],
    "book": ["Book(task, k)"],
    "journal": ["Journal(text='')"],
    "desk": ["Desk()", "Keep(text='')"],
}
METHODS = {
    "asks": {"Session": ["ask(self)", "answer(self, truth)", "found(self)"]},
    "book": {"Book": ["add(self, example, truth)", "remove(self, example)", "turn(self, example)", "undo(self)",
                      "deeds(self)", "drift(self)"]},
    "journal": {"Journal": ["add(self, record)", "fail(self, count)", "open_again(self)", "text(self)",
                            "records(self)"]},
    "desk": {"Desk": ["obey(self, line)", "journal(self)"],
             "Keep": ["obey(self, line)", "fail(self, count)", "open_again(self)", "text(self)"]},
}


class InterfaceTest(unittest.TestCase):
    def test_functions(self):
        for file, told in FUNCTIONS.items():
            for text in told:
                found = getattr(import_module("fewrules." + file), text.partition("(")[0])
                self.assertTrue(inspect.isfunction(found), text)
                self.assertEqual(found.__name__ + str(inspect.signature(found)), text)
                self.assertEqual(found.__module__, "fewrules." + file)

    def test_classes(self):
        for file, told in CLASSES.items():
            for text in told:
                found = getattr(import_module("fewrules." + file), text.partition("(")[0])
                self.assertTrue(inspect.isclass(found), text)
                self.assertEqual(found.__name__ + str(inspect.signature(found)), text)
                self.assertEqual(found.__module__, "fewrules." + file)
                self.assertIn("__init__", vars(found))

    def test_methods(self):
        for file, classes in METHODS.items():
            for name, told in classes.items():
                held = vars(getattr(import_module("fewrules." + file), name))
                for text in told:
                    found = held[text.partition("(")[0]]
                    self.assertEqual(found.__name__ + str(inspect.signature(found)), text)
