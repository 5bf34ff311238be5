"""The tokens of a text, as the reader gets them."""

import unittest

from ordersheets.scan import END, NUMBER, SIGN, WORD, WRONG, scan_text
from tests.helper import bytes_of


def tokens_of(text):
    return [(token.kind, token.value, token.line, token.column) for token in scan_text(bytes_of(text))]


class Tokens(unittest.TestCase):
    def test_kinds_values_and_places(self):
        self.assertEqual(tokens_of("ab<=007 # c\n .."), [
            (WORD, "ab", 1, 1), (SIGN, "<=", 1, 3), (NUMBER, 7, 1, 5), (SIGN, "..", 2, 2), (END, "", 2, 4)])

    def test_the_end_alone(self):
        self.assertEqual(tokens_of(""), [(END, "", 1, 1)])
        self.assertEqual(tokens_of("\n #"), [(END, "", 2, 3)])

    def test_nothing_is_looked_at_behind_a_wrong_token(self):
        self.assertEqual(tokens_of("a @ b @"), [(WORD, "a", 1, 1), (WRONG, "", 1, 3)])
        self.assertEqual(tokens_of("1a"), [(WRONG, "", 1, 1)])
        self.assertEqual(tokens_of("x" * 25 + " y"), [(WRONG, "", 1, 1)])

    def test_the_kinds_have_the_numbers_of_the_document(self):
        self.assertEqual((WORD, NUMBER, SIGN, END, WRONG), (0, 1, 2, 3, 4))
