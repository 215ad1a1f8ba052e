"""Points 76 and 77, and the interface of fewrules/journal.py."""

import random

from fewrules.errors import InvalidLine
from fewrules.journal import Journal
from tests.support import Case


class JournalTest(Case):
    def state(self, journal):
        return journal.text(), journal.records(), journal.is_on

    def test_records(self):
        journal = Journal()
        self.assertEqual(self.state(journal), ("", [], True))
        for record in ("a b", "", " ~"):
            self.assertIs(journal.add(record), True)
        self.assertEqual(self.state(journal), ("a b\n\n ~\n", ["a b", "", " ~"], True))

    def test_a_text_to_begin_with(self):
        for text, kept, records in [("", "", []), ("a\nb\n", "a\nb\n", ["a", "b"]), ("a\nb", "a\n", ["a"]),
                                    ("a", "", []), ("\n", "\n", [""]), ("\n\nx", "\n\n", ["", ""]), ("\nx\n", "\nx\n",
                                                                                                 ["", "x"])]:
            self.assertEqual(self.state(Journal(text)), (kept, records, True))
        self.assertEqual(Journal(text="a\n").records(), ["a"])

    def test_a_fuse_within_a_record_at_its_newline_and_behind_it(self):
        for count, text, told, on in [(0, "", False, False), (1, "a", False, False), (2, "ab", False, False),
                                      (3, "ab\n", True, False), (4, "ab\n", True, True), (9, "ab\n", True, True)]:
            journal = Journal()
            self.assertIsNone(journal.fail(count))
            self.assertIs(journal.is_on, count > 0)
            self.assertIs(journal.add("ab"), told)
            self.assertEqual((journal.text(), journal.is_on), (text, on))
            self.assertEqual(journal.records(), ["ab"] if told else [])

    def test_a_fuse_over_several_records(self):
        journal = Journal("x\n")
        journal.fail(5)
        self.assertEqual([journal.add("a"), journal.add(""), journal.add("bcd"), journal.add("e")],
                         [True, True, False, False])
        self.assertEqual(self.state(journal), ("x\na\n\nbc", ["x", "a", ""], False))

    def test_a_further_fuse_takes_the_place_of_the_first_one(self):
        journal = Journal()
        journal.fail(1)
        journal.fail(5)
        self.assertIs(journal.add("abc"), True)
        self.assertEqual(self.state(journal), ("abc\n", ["abc"], True))
        journal.fail(0)
        self.assertEqual((journal.is_on, journal.add("")), (False, False))

    def test_a_fuse_while_the_power_is_off(self):
        journal = Journal()
        journal.fail(2)
        journal.add("abc")
        journal.fail(9)
        self.assertIs(journal.add("x"), False)
        self.assertEqual(self.state(journal), ("ab", [], False))
        self.assertIsNone(journal.open_again())
        self.assertEqual(self.state(journal), ("", [], True))
        self.assertIs(journal.add("x" * 99), True)

    def test_opening_twice(self):
        for text in ("a\nb", "a\n", "ab"):
            journal = Journal()
            journal.fail(len(text))
            for record in text.split("\n") + ["zzz"]:
                journal.add(record)
            journal.open_again()
            once = self.state(journal)
            journal.open_again()
            self.assertEqual(self.state(journal), once)

    def test_opening_ends_a_fuse(self):
        journal = Journal()
        journal.fail(3)
        journal.add("a")
        journal.open_again()
        self.assertIs(journal.add("bcdef"), True)
        self.assertEqual(journal.records(), ["a", "bcdef"])

    def test_random_courses(self):
        source = random.Random(320)
        for _ in range(200):
            journal = Journal("begin\nrest")
            expected = ["begin"]
            for _ in range(20):
                choice = source.random()
                if choice < 0.7:
                    record = "".join(source.choice("ab ~") for _ in range(source.randint(0, 4)))
                    if journal.add(record):
                        expected.append(record)
                elif choice < 0.85:
                    journal.fail(source.randint(0, 12))
                else:
                    journal.open_again()
                    self.assertEqual(journal.records(), expected)
            self.assertEqual(journal.records(), expected)
            journal.open_again()
            self.assertEqual(self.state(journal), ("".join(row + "\n" for row in expected), expected, True))

    def test_characters_that_are_none(self):
        for character in ("\t", "\r", "\x7f", "\x1f", "\xe9", "\u20ac", "\0"):
            for text in (character, "a" + character, "a\n" + character + "b", "a\n" + character + "\nb"):
                self.invalid(InvalidLine, "character", Journal, text)
        for record in ("\n", "a\nb", "\t", "a\x7f", "\xe9", "a\r"):
            journal = Journal("x\n")
            journal.fail(3)
            self.invalid(InvalidLine, "character", journal.add, record)
            self.assertEqual(self.state(journal), ("x\n", ["x"], True))
            self.assertIs(journal.add("ab"), True)
            self.assertIs(journal.is_on, False)
            self.invalid(InvalidLine, "character", journal.add, record)
        self.assertIs(Journal().add("".join(map(chr, range(32, 127)))), True)

    def test_the_list_is_new(self):
        journal = Journal("a\n")
        journal.records().clear()
        self.assertEqual(journal.records(), ["a"])
