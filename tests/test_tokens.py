"""tokens: each token's kind and place, the end or a wrong one as the last."""

import random
import re
import unittest

from ordersheets.sheets import check, tokens
from tests.helper import EXAMPLE, KEY_WORDS, bytes_of
from tests.test_random_sheets import made_sheets, place_of, spread

WORD, NUMBER, SIGN, END, WRONG = range(5)

SIGNS = "== != <= >= && || .. + - * / % ( ) { } , ; : = < > !".split()


class TokensCase(unittest.TestCase):
    def assert_tokens(self, told, text):
        """Each token is told by its kind, line and column."""
        answer = tokens(bytes_of(text))
        self.assertEqual(answer[:2], [0, len(told)], text)
        self.assertEqual(answer[2:], [number for token in told for number in token], text)

    def assert_kinds(self, kinds, text):
        """The tokens stand in one line, with one blank between each two."""
        columns = [match.start() + 1 for match in re.finditer("[^ ]+", text)]
        columns += [len(text) + 1] * (kinds[-1] == END)
        self.assert_tokens([(kind, 1, column) for kind, column in zip(kinds, columns, strict=True)], text)


class NoTokens(TokensCase):
    def test_an_empty_text(self):
        self.assert_tokens([(END, 1, 1)], "")

    def test_blanks_alone(self):
        for blank in "\t\r ":
            self.assert_tokens([(END, 1, 2)], blank)
            self.assert_tokens([(END, 1, 4)], blank * 3)
        self.assert_tokens([(END, 2, 1)], "\n")
        self.assert_tokens([(END, 4, 1)], "\n\n\n")
        self.assert_tokens([(END, 2, 3)], " \t\r\n\t ")
        self.assert_tokens([(END, 3, 2)], "\r\n\n\r")

    def test_comments_alone(self):
        self.assert_tokens([(END, 1, 2)], "#")
        self.assert_tokens([(END, 1, 6)], "# abc")
        self.assert_tokens([(END, 2, 1)], "#\n")
        self.assert_tokens([(END, 2, 1)], "# abc\n")
        self.assert_tokens([(END, 2, 3)], "# abc\n  ")
        self.assert_tokens([(END, 2, 4)], "# a\n# b")
        self.assert_tokens([(END, 3, 1)], "# a\n# b\n")

    def test_what_stands_in_a_comment_means_nothing(self):
        self.assert_tokens([(END, 1, 11)], "#@ 1a # \r$")
        self.assert_tokens([(WORD, 1, 1), (END, 1, 10)], "a # const")
        for byte in range(256):
            line, column = (2, 2) if byte == 10 else (1, 5)
            self.assertEqual(tokens([97, 35, byte, 32]), [0, 2, WORD, 1, 1, END, line, column])


class Words(TokensCase):
    def test_words_and_key_words(self):
        for word in ["a", "Z", "_", "__", "a1", "x_y", "_9", "min", "sums", "IF", *KEY_WORDS]:
            self.assert_kinds([WORD, END], word)
            self.assert_kinds([WORD, WORD, END], f"{word} b")

    def test_24_bytes_and_25(self):
        for word in ("a" * 24, "_" * 24, "Z" + "9" * 23):
            self.assert_kinds([WORD, END], word)
            self.assert_kinds([SIGN, WORD, SIGN, END], f"( {word} )")
            for letter in "aZ_0":
                self.assert_kinds([WRONG], word + letter)
                self.assert_tokens([(SIGN, 1, 1), (WRONG, 1, 3)], f"( {word}{letter} ) @")
        self.assert_tokens([(WRONG, 1, 1)], "a" * 3000)

    def test_every_letter_and_digit(self):
        letters = "ABCDEFGHIJKLMNOPQRSTUVWXYZ_abcdefghijklmnopqrstuvwxyz"
        for letter in letters:
            self.assert_kinds([WORD, END], letter)
            self.assert_kinds([WORD, END], f"a{letter}")
        for digit in "0123456789":
            self.assert_kinds([NUMBER, END], digit)
            self.assert_kinds([WORD, END], f"a{digit}")

    def test_a_word_ends_where_no_letter_or_digit_follows(self):
        self.assert_tokens([(WORD, 1, 1), (SIGN, 1, 4), (WORD, 1, 5), (END, 1, 6)], "abc+d")
        self.assert_tokens([(WORD, 1, 1), (END, 1, 7)], "abc#de")
        self.assert_tokens([(WORD, 1, 1), (WRONG, 1, 4)], "abc.d")


class Numbers(TokensCase):
    def test_18_digits_and_19(self):
        for digit in "0159":
            self.assert_kinds([NUMBER, END], digit)
            self.assert_kinds([NUMBER, END], digit * 18)
            self.assert_kinds([SIGN, NUMBER, SIGN, END], f"( {digit * 18} )")
            self.assert_kinds([WRONG], digit * 19)
            self.assert_tokens([(SIGN, 1, 1), (WRONG, 1, 3)], f"( {digit * 19} )")
        self.assert_tokens([(WRONG, 1, 1)], "1" * 3000)

    def test_a_letter_behind_a_number(self):
        for letter in "aAzZ_":
            for number in ("0", "12", "9" * 18, "9" * 19):
                self.assert_tokens([(WRONG, 1, 1)], number + letter)
                self.assert_tokens([(SIGN, 1, 1), (WRONG, 1, 2)], f"-{number}{letter} 5")
        self.assert_kinds([NUMBER, WORD, END], "12 a")
        self.assert_tokens([(WRONG, 1, 1)], "1if 2")

    def test_anything_else_behind_a_number(self):
        self.assert_tokens([(NUMBER, 1, 1), (SIGN, 1, 2), (NUMBER, 1, 4), (END, 1, 5)], "1..2")
        self.assert_tokens([(NUMBER, 1, 1), (WRONG, 1, 2)], "1.2")
        self.assert_tokens([(NUMBER, 1, 1), (SIGN, 1, 3), (NUMBER, 1, 4), (END, 1, 5)], "12-3")
        self.assert_tokens([(NUMBER, 1, 1), (END, 1, 4)], "12#")
        self.assert_tokens([(NUMBER, 1, 1), (WRONG, 1, 2)], "1\xe9")

    def test_a_minus_is_a_token_of_its_own(self):
        self.assert_tokens([(SIGN, 1, 1), (NUMBER, 1, 2), (END, 1, 3)], "-5")


class Signs(TokensCase):
    def test_each_sign(self):
        for sign in SIGNS:
            self.assert_kinds([SIGN, END], sign)
            self.assert_kinds([WORD, SIGN, NUMBER, END], f"a {sign} 1")
            self.assert_tokens([(WORD, 1, 1), (SIGN, 1, 2), (NUMBER, 1, 2 + len(sign)), (END, 1, 3 + len(sign))],
                               f"a{sign}1")

    def test_the_longest_one_counts(self):
        self.assert_columns("===", 1, 3)
        self.assert_columns("====", 1, 3)
        self.assert_columns("!==", 1, 3)
        self.assert_columns("!!=", 1, 2)
        self.assert_columns("<==", 1, 3)
        self.assert_columns("<>=", 1, 2)
        self.assert_columns("=<=", 1, 2)
        self.assert_columns("=>", 1, 2)
        self.assert_columns("=!", 1, 2)
        self.assert_columns("<<", 1, 2)
        self.assert_columns("&&&&", 1, 3)
        self.assert_columns("||||", 1, 3)
        self.assert_columns("....", 1, 3)
        self.assert_columns("--", 1, 2)
        self.assert_columns("++", 1, 2)
        self.assert_columns("){", 1, 2)
        self.assert_columns("= =", 1, 3)
        self.assert_columns("<\n=", (1, 1), (2, 1))

    def assert_columns(self, text, *places):
        """Signs and the end, the signs at these places."""
        told = [(SIGN, *place) if isinstance(place, tuple) else (SIGN, 1, place) for place in places]
        self.assert_tokens(told + [(END, *place_of(text, len(text)))], text)

    def test_every_two_signs_side_by_side(self):
        longer = [sign for sign in SIGNS if len(sign) == 2]
        for first in SIGNS:
            for second in SIGNS:
                both = first + second
                if len(first) == 1 and both[:2] in longer:
                    columns = [1] + [3] * (len(both) > 2)
                    if both[2:] in ("&", "|", "."):
                        continue
                else:
                    columns = [1, 1 + len(first)]
                self.assert_columns(both, *columns)

    def test_halves_of_signs(self):
        for half in "&|.":
            self.assert_kinds([WRONG], half)
            self.assert_tokens([(SIGN, 1, 1), (WRONG, 1, 3)], half * 3)
            self.assert_tokens([(WRONG, 1, 1)], f"{half} {half}")
            self.assert_tokens([(WRONG, 1, 1)], f"{half}={half}")
            self.assert_tokens([(WORD, 1, 1), (WRONG, 1, 2)], f"a{half}b")
        self.assert_tokens([(WRONG, 1, 1)], "&|")


class WrongTokens(TokensCase):
    def test_bytes_that_begin_no_token(self):
        begins = set("\t\n\r #_" + "".join(sign[0] for sign in SIGNS if len(sign) == 1))
        for byte in range(256):
            sign = chr(byte)
            if sign in begins or byte < 128 and sign.isalnum():
                self.assertNotEqual(tokens([byte])[2], WRONG, byte)
            else:
                self.assertEqual(tokens([byte]), [0, 1, WRONG, 1, 1], byte)
                self.assertEqual(tokens([97, byte, 98]), [0, 2, WORD, 1, 1, WRONG, 1, 2], byte)
                self.assertEqual(tokens([32, byte, 98, byte, 10]), [0, 1, WRONG, 1, 2], byte)

    def test_it_is_the_last_one(self):
        for wrong in ("@", "&", "1a", "9" * 19, "x" * 25, "\xff", "\x00"):
            for behind in ("", " ", "\n", " a b", f" {wrong}", "\n# end", ";"):
                self.assert_tokens([(WORD, 1, 1), (SIGN, 2, 2), (WRONG, 2, 4)], f"a\n ; {wrong}{behind}")


class Places(TokensCase):
    def test_columns_are_counted_in_bytes(self):
        for blank in "\t\r ":
            self.assert_tokens([(WORD, 1, 2), (WORD, 1, 5), (END, 1, 7)], f"{blank}a{blank * 2}b{blank}")
        self.assertEqual(tokens(list("# \u00e9\na".encode())), [0, 2, WORD, 2, 1, END, 2, 2])

    def test_lines_end_with_a_byte_10_alone(self):
        self.assert_tokens([(WORD, 1, 1), (WORD, 2, 1), (END, 3, 1)], "a\nb\n")
        self.assert_tokens([(WORD, 1, 1), (WORD, 2, 1), (END, 3, 1)], "a\r\nb\r\n")
        self.assert_tokens([(WORD, 1, 1), (WORD, 2, 2), (END, 2, 4)], "a\n\rb\r")
        self.assert_tokens([(WORD, 1, 1), (WORD, 4, 3), (END, 4, 4)], "a # b\n\n\t\n\t b")
        self.assert_tokens([(WORD, 1, 1), (WORD, 1, 3), (END, 1, 4)], "a\rb")

    def test_the_end_behind_the_last_byte(self):
        self.assert_tokens([(WORD, 1, 1), (END, 1, 2)], "a")
        self.assert_tokens([(WORD, 1, 1), (END, 1, 3)], "a ")
        self.assert_tokens([(WORD, 1, 1), (END, 1, 5)], "a # ")
        self.assert_tokens([(WORD, 1, 1), (END, 2, 1)], "a #\n")

    def test_a_sheet(self):
        self.assert_tokens([
            (WORD, 1, 1), (WORD, 1, 7), (SIGN, 1, 9), (NUMBER, 1, 11), (SIGN, 1, 13), (NUMBER, 2, 3), (SIGN, 2, 4),
            (NUMBER, 2, 6), (SIGN, 2, 7), (END, 3, 1)], "const a = 2 + # sum\n  3* 4;\n")


class Texts(TokensCase):
    def test_faults_of_the_grammar_refuse_nothing(self):
        self.assert_kinds([SIGN, WORD, NUMBER, WORD, SIGN, END], ") const 7 desk ,")
        self.assert_kinds([WORD, WORD, END], "desk d")
        self.assert_kinds([WORD, WORD, SIGN, WORD, SIGN, END], "const a = b ;")
        self.assert_kinds([WORD, WORD, SIGN, NUMBER, SIGN, END], "const min = 1 ;")
        deep = "const a = " + "( " * 50
        self.assert_kinds([WORD, WORD] + [SIGN] * 51 + [END], deep)

    def test_a_fault_1_stands_at_the_wrong_token(self):
        for text in ("@", "const @", "const a = 1 +\n 2x;", "desk d { " + "y" * 25):
            answer = tokens(bytes_of(text))
            self.assertEqual(answer[-3], WRONG)
            self.assertEqual(check(bytes_of(text)), [0, 1] + answer[-2:])

    def test_texts_of_3000_bytes(self):
        self.assert_tokens([(END, 1, 3001)], " " * 3000)
        self.assert_tokens([(END, 1, 3001)], "#" * 3000)
        self.assert_tokens([(END, 3001, 1)], "\n" * 3000)
        self.assert_tokens([(SIGN, 1, column) for column in range(1, 3001)] + [(END, 1, 3001)], "(" * 3000)
        self.assert_tokens([(WORD, line, 1) for line in range(1, 1501)] + [(END, 1501, 1)], "a\n" * 1500)
        self.assert_tokens([(NUMBER, 1, column) for column in range(1, 3001, 2)] + [(END, 1, 3001)], "7 " * 1500)
        self.assert_tokens([(SIGN, 1, column) for column in range(1, 3000)] + [(WRONG, 1, 3000)], "+" * 2999 + "@")

    def test_longer_texts_are_refused(self):
        for text in (" " * 3001, "@" * 3001, "a" * 4000, "\n" * 3001):
            self.assertEqual(tokens(bytes_of(text)), [-1])

    def test_what_is_no_byte_is_refused(self):
        for number in (-1, 256, 10 ** 18, -10 ** 18):
            for text in ([number], [97, number], [number, 97], [64, number], [35, number], [35, 10, number]):
                self.assertEqual(tokens(text), [-1])

    def test_the_list_stays_as_it_was(self):
        for text in ("", EXAMPLE, "a @ b"):
            handed = bytes_of(text)
            tokens(handed)
            self.assertEqual(handed, bytes_of(text))


PIECE = re.compile(
    r"(?P<between>[\t\n\r ]+|#[^\n]*)|(?P<word>[A-Za-z_][A-Za-z_0-9]*)|(?P<number>[0-9]+)(?P<glued>[A-Za-z_]?)"
    r"|(?P<sign>[=!<>]=|&&|\|\||\.\.|[-+*/%(){},;:=<>!])|(?P<other>.)", re.DOTALL)


def second_tokens(text):
    """What tokens must answer, found another way."""
    told = []
    at = 0
    while at < len(text):
        piece = PIECE.match(text, at)
        place = place_of(text, at)
        at = piece.end()
        if piece["between"]:
            continue
        if piece["other"] or piece["glued"] or len(piece["word"] or "") > 24 or len(piece["number"] or "") > 18:
            told.append([WRONG, *place])
            break
        told.append([WORD if piece["word"] else NUMBER if piece["number"] else SIGN, *place])
    else:
        told.append([END, *place_of(text, len(text))])
    return [0, len(told)] + sum(told, [])


class RandomTexts(TokensCase):
    def assert_second(self, text):
        self.assertEqual(tokens(bytes_of(text)), second_tokens(text), text)

    def test_rows_of_bytes(self):
        chooser = random.Random(3)
        common = "aZ_09 \t\n\r#=!<>&|.+-*/%(){},;:" * 3
        everything = "".join(map(chr, range(256)))
        for _ in range(3000):
            alphabet = chooser.choice([common, common, common + everything])
            self.assert_second("".join(chooser.choices(alphabet, k=chooser.randrange(60))))

    def test_rows_of_tokens(self):
        chooser = random.Random(4)
        pieces = [*SIGNS, *KEY_WORDS, "a", "b1", "7", "007", "9" * 18, "x" * 24, " ", "\n", "\t", "# c @\n", "\r\n"]
        for _ in range(2000):
            self.assert_second("".join(chooser.choices(pieces, k=chooser.randrange(80))))

    def test_sheets(self):
        for seed, made in enumerate(made_sheets(200)):
            text = spread(made, seed)
            answer = tokens(bytes_of(text))
            self.assertEqual(answer, second_tokens(text))
            self.assertEqual(answer[1], len(made) + 1)
