"""Point 3: the tokens of a text, with their sorts, starts and ends."""

import unittest

from settledland.reading import tokens

WORDS = "kind number ref fixed empty single thing none index told keep adopt as move to most".split()


def pieces(text):
    return [(sort, text[start:end]) for sort, start, end in tokens(text)]


class Tokens(unittest.TestCase):
    def test_all_sorts(self):
        self.assertEqual(
            tokens("kind a_1 {\n x: 07;}?"),
            [
                ("word", 0, 4),
                ("name", 5, 8),
                ("sign", 9, 10),
                ("name", 12, 13),
                ("sign", 13, 14),
                ("number", 15, 17),
                ("sign", 17, 18),
                ("sign", 18, 19),
                ("wrong", 19, 20),
            ],
        )

    def test_nothing(self):
        for text in ("", " ", "\n", " \n \n", "!", "! note", "!a\n!b\n", "!!\n"):
            self.assertEqual(tokens(text), [], text)

    def test_all_words(self):
        for word in WORDS:
            self.assertEqual(tokens(word), [("word", 0, len(word))])

    def test_names_that_begin_with_a_word(self):
        for word in WORDS:
            for more in ("s", "_", ".", "#", "0", ".0", "#kind", "Z"):
                self.assertEqual(tokens(word + more), [("name", 0, len(word + more))])

    def test_names_that_are_almost_words(self):
        for word in WORDS:
            for name in (word.upper(), word.title(), word[:-1], "x" + word):
                self.assertEqual(tokens(name), [("name", 0, len(name))])

    def test_characters_of_names(self):
        name = "zaAZ09_.#__..##"
        self.assertEqual(tokens(name), [("name", 0, len(name))])
        for first in "abcdefghijklmnopqrstuvwxyzABCDEFGHIJKLMNOPQRSTUVWXYZ":
            self.assertEqual(tokens(first + "9#"), [("name", 0, 3)])

    def test_numbers(self):
        for number in ("0", "9", "00", "007", "1234567890", "99999999999999999999", "8" * 8000):
            self.assertEqual(tokens(number), [("number", 0, len(number))])

    def test_number_ends_at_the_first_other_character(self):
        self.assertEqual(pieces("12ab"), [("number", "12"), ("name", "ab")])
        self.assertEqual(pieces("12to"), [("number", "12"), ("word", "to")])
        self.assertEqual(pieces("1_2"), [("number", "1"), ("wrong", "_"), ("number", "2")])
        self.assertEqual(pieces("1.5"), [("number", "1"), ("wrong", "."), ("number", "5")])

    def test_signs_without_spaces(self):
        text = "{}:;=*+"
        self.assertEqual(tokens(text), [("sign", k, k + 1) for k in range(7)])
        self.assertEqual(
            pieces("a*2:b{x=told c+1;}"),
            [
                ("name", "a"),
                ("sign", "*"),
                ("number", "2"),
                ("sign", ":"),
                ("name", "b"),
                ("sign", "{"),
                ("name", "x"),
                ("sign", "="),
                ("word", "told"),
                ("name", "c"),
                ("sign", "+"),
                ("number", "1"),
                ("sign", ";"),
                ("sign", "}"),
            ],
        )
        self.assertEqual(tokens("++"), [("sign", 0, 1), ("sign", 1, 2)])

    def test_wrong_characters(self):
        wrong = "\"#$&'(),-./<>?@[\\]^_`|~"
        self.assertEqual(tokens(wrong), [("wrong", k, k + 1) for k in range(len(wrong))])
        self.assertEqual(pieces("a-b"), [("name", "a"), ("wrong", "-"), ("name", "b")])
        self.assertEqual(pieces("_a"), [("wrong", "_"), ("name", "a")])
        self.assertEqual(pieces(".kind"), [("wrong", "."), ("word", "kind")])
        self.assertEqual(pieces("#1"), [("wrong", "#"), ("number", "1")])

    def test_every_character_alone(self):
        for code in range(32, 127):
            sign = chr(code)
            if sign == "%":
                continue
            if sign in " !":
                expected = []
            elif sign.isalpha():
                expected = [("name", 0, 1)]
            elif sign.isdigit():
                expected = [("number", 0, 1)]
            elif sign in "{}:;=*+":
                expected = [("sign", 0, 1)]
            else:
                expected = [("wrong", 0, 1)]
            self.assertEqual(tokens(sign), expected, sign)

    def test_notes(self):
        self.assertEqual(tokens("a ! b c\nd"), [("name", 0, 1), ("name", 8, 9)])
        self.assertEqual(tokens("a ! b c"), [("name", 0, 1)])
        self.assertEqual(tokens("a!b"), [("name", 0, 1)])
        self.assertEqual(tokens("1!\n2"), [("number", 0, 1), ("number", 3, 4)])
        self.assertEqual(tokens("!{\n!}\n;"), [("sign", 6, 7)])
        self.assertEqual(tokens("! a ! b \n;"), [("sign", 9, 10)])

    def test_spaces_and_newlines_part_tokens(self):
        self.assertEqual(tokens("ki nd\nki\nnd"), [("name", 0, 2), ("name", 3, 5), ("name", 6, 8), ("name", 9, 11)])
        self.assertEqual(tokens("1 2\n3"), [("number", 0, 1), ("number", 2, 3), ("number", 4, 5)])

    def test_list_is_new_at_each_call(self):
        text = "keep a;"
        first = tokens(text)
        expected = list(first)
        first.append(("wrong", 0, 1))
        self.assertEqual(tokens(text), expected)
        self.assertIsNot(tokens(text), tokens(text))


if __name__ == "__main__":
    unittest.main()
