"""Point 17, and the interface of fewrules/words.py."""

import unittest

from fewrules.words import atom_of, is_name, is_numeral, lines_of, words_of


class LinesTest(unittest.TestCase):
    def test_lines(self):
        for text, lines in [
            ("", []),
            ("\n", [""]),
            ("a", ["a"]),
            ("a\n", ["a"]),
            ("a\nb", ["a", "b"]),
            ("a\n\n", ["a", ""]),
            ("\na", ["", "a"]),
            ("a\rb\x0bc\x85d\n", ["a\rb\x0bc\x85d"]),
        ]:
            with self.subTest(text):
                self.assertEqual(lines_of(text), lines)


class WordsTest(unittest.TestCase):
    def test_words_and_columns(self):
        for line, words in [
            ("", [(1, "")]),
            (" ", [(1, ""), (2, "")]),
            ("tie", [(1, "tie")]),
            ("known tie 2", [(1, "known"), (7, "tie"), (11, "2")]),
            (" a", [(1, ""), (2, "a")]),
            ("a ", [(1, "a"), (3, "")]),
            ("a  b", [(1, "a"), (3, ""), (4, "b")]),
            ("  a", [(1, ""), (2, ""), (3, "a")]),
            ("a\tb c", [(1, "a\tb"), (5, "c")]),
        ]:
            with self.subTest(line):
                self.assertEqual(words_of(line), words)

    def test_the_list_is_new(self):
        words_of("a b").append("c")
        self.assertEqual(words_of("a b"), [(1, "a"), (3, "b")])


class NamesTest(unittest.TestCase):
    def test_names(self):
        for word in ["a", "z", "ab", "abcdefghijkl", "nopqrstuvwxy"]:
            with self.subTest(word):
                self.assertIs(is_name(word), True)

    def test_what_is_no_name(self):
        for word in [
            "", "abcdefghijklm", "A", "aB", "a1", "1", "a b", " a", "a ", "a_b", "a-b", "a\n", "\u00e9", "\u00df",
        ]:
            with self.subTest(word):
                self.assertIs(is_name(word), False)

    def test_numerals(self):
        for word in ["0", "1", "9", "10", "105", "123456789", "999999999"]:
            with self.subTest(word):
                self.assertIs(is_numeral(word), True)

    def test_what_is_no_numeral(self):
        for word in [
            "", "00", "01", "012345678", "1234567890", "-1", "+1", "1.0", "1 ", " 1", "a", "1a", "1_0", "1\n",
            "\u0663", "\u00b2",
        ]:
            with self.subTest(word):
                self.assertIs(is_numeral(word), False)


class AtomsTest(unittest.TestCase):
    def test_written_atoms(self):
        for word, atom in [
            ("a(b)", ("a", ("b",))),
            ("tie(ann,bob)", ("tie", ("ann", "bob"))),
            ("big(a,b,c)", ("big", ("a", "b", "c"))),
            ("big(a,a,a,a,a)", ("big", ("a", "a", "a", "a", "a"))),
            ("abcdefghijkl(abcdefghijkl)", ("abcdefghijkl", ("abcdefghijkl",))),
        ]:
            with self.subTest(word):
                self.assertEqual(atom_of(word), atom)

    def test_what_is_nearly_one(self):
        for word in [
            "", "a", "a(", "a)", "a()", "()", "(b)", "a(b", "ab)", "a(b))", "a((b)", "a((b))", "a(b)c", "a(b)(c)",
            "a(,)", "a(b,)", "a(,b)", "a(b,,c)", "a (b)", "a( b)", "a(b )", "a(b, c)", "a(b) ", " a(b)", "a(b;c)",
            "A(b)", "a(B)", "a(1)", "1(a)", "a[b]", "a(b]", "abcdefghijklm(a)", "a(abcdefghijklm)", "a(b)\n", "a(b(c))",
        ]:
            with self.subTest(word):
                self.assertIsNone(atom_of(word))
