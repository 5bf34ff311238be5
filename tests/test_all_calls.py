"""What all calls have in common."""

import contextlib
import functools
import io
import unittest

from ordersheets.sheets import check, curve, desks, expand, fold, same, show, steps, tokens, value
from tests.helper import EXAMPLE, MARKET, bytes_of

SHEET = bytes_of("const a = 2 + 3 * 4; desk d { let b = a; if b { } else { } }")

# Each as a call of a text alone; value alone takes no sheet.
SHEET_CALLS = (
    check, show, functools.partial(expand, *MARKET), functools.partial(curve, *MARKET, 0, 0, 15), fold,
    functools.partial(steps, *MARKET), functools.partial(same, *MARKET, SHEET),
    lambda text: same(*MARKET, text, SHEET), lambda text: same(*MARKET, text, text),
    functools.partial(desks, *MARKET), tokens,
)
CALLS = SHEET_CALLS + (value,)
TEXTS = (
    [], SHEET, bytes_of(EXAMPLE), SHEET + [64], SHEET + bytes_of("const c = 1 / 0;"),
    bytes_of("desk e { for i in 1 .. 10000 { } }"), [64], [256], [-1], [32] * 3001,
    bytes_of("sum(i in 1 .. 4: i * i) - 7"), bytes_of("1 % 0"), bytes_of("sum(i in 1 .. 10000: i)"), bytes_of("1 + "),
)


def refuse(*told):
    raise AssertionError("the list is changed")


class Unchanging(list):
    """A list that tells when it's changed."""

    append = extend = insert = pop = remove = clear = reverse = sort = refuse
    __setitem__ = __delitem__ = __iadd__ = __imul__ = refuse


class Texts(unittest.TestCase):
    def assert_refused(self, text):
        for call in CALLS:
            self.assertEqual(call(text), [-1])

    def test_3000_bytes_are_read(self):
        self.assertEqual(check([32] * 3000), [0, 0, 0, 0])
        self.assertEqual(show([32] * 3000), [0, 0])
        longest = bytes_of("const a = 1;") + [10] * 2988
        self.assertEqual(check(longest), [0, 0, 0, 0])
        self.assertEqual(show(longest), [0, 13] + bytes_of("const a = 1;\n"))

    def test_3001_bytes_are_refused(self):
        self.assert_refused([32] * 3001)
        self.assert_refused([32] * 4000)

    def test_numbers_that_are_no_bytes_are_refused(self):
        for number in (-1, 256, -10 ** 18, 10 ** 18):
            self.assert_refused([number])
            self.assert_refused(SHEET + [number])
            self.assert_refused([number] + SHEET)

    def test_this_refusal_comes_before_any_fault(self):
        self.assert_refused(bytes_of("@") + [256])
        self.assert_refused(bytes_of("const # ") + [-1])
        self.assert_refused(bytes_of("@") * 3001)

    def test_0_and_255_are_bytes(self):
        for byte in (0, 255):
            self.assertEqual(check([byte]), [0, 1, 1, 1])
            self.assertEqual(show([byte]), [-3])
            self.assertEqual(check([35, byte]), [0, 0, 0, 0])
            self.assertEqual(show([35, byte]), [0, 0])

    def test_every_number_from_0_to_255_is_taken(self):
        for byte in range(256):
            self.assertEqual(check([byte])[0], 0)


class Calls(unittest.TestCase):
    def test_the_list_stays_as_it_was(self):
        for text in TEXTS:
            for call in CALLS:
                handed = list(text)
                call(handed)
                self.assertEqual(handed, text)

    def test_the_list_is_not_changed_for_a_while_either(self):
        for text in TEXTS:
            for call in CALLS:
                self.assertEqual(call(Unchanging(text)), call(list(text)))

    def test_nothing_is_kept_from_one_call_to_the_next(self):
        faulty = bytes_of("fun f(x) = x; desk d { let y = 1; block b sell zone 0 price 0 amount t: @")
        for call in CALLS:
            first = call(SHEET)
            self.assertEqual(call(SHEET), first)
            self.assertEqual(call(faulty), call(faulty))
            self.assertEqual(call(SHEET), first)
            answers = [call(list(text)) for text in TEXTS]
            self.assertEqual([call(list(text)) for text in reversed(TEXTS)], answers[::-1])
        again = bytes_of("fun f(x) = x; desk d { let y = 1; block b sell zone 0 price 0 amount t: 1; }")
        self.assertEqual(check(again), [0, 0, 0, 0])
        self.assertEqual(check(again), [0, 0, 0, 0])

    def test_an_answer_can_be_changed_without_harm(self):
        for call in CALLS:
            answer = call(bytes_of(EXAMPLE))
            kept = list(answer)
            answer.clear()
            self.assertEqual(call(bytes_of(EXAMPLE)), kept)

    def test_answers_are_lists_of_plain_whole_numbers(self):
        for call in CALLS:
            for text in TEXTS:
                answer = call(text)
                self.assertIs(type(answer), list)
                self.assertTrue(all(type(number) is int for number in answer))
                self.assertTrue(answer[0] == 0 or answer[0] < 0 and len(answer) == 1)

    def test_nothing_is_printed(self):
        printed = io.StringIO()
        with contextlib.redirect_stdout(printed), contextlib.redirect_stderr(printed):
            for call in CALLS:
                for text in TEXTS:
                    call(text)
        self.assertEqual(printed.getvalue(), "")

    def test_long_sheets_are_gone_through_by_loops(self):
        long_ones = (
            "const a = " + "+".join(["1"] * 1490) + ";",
            "const a = " + "&&".join(["1"] * 990) + ";",
            "desk d{" + "if 1{}" * 490 + "}",
            "desk d{" + "if 1{}else{}" * 245 + "}",
            "".join(f"const x{number}=1;" for number in range(180)),
            "#" * 3000,
            "\n" * 3000,
        )
        for text in long_ones:
            self.assertLessEqual(len(text), 3000)
            for call in SHEET_CALLS:
                self.assertEqual(call(bytes_of(text))[0], 0)
        self.assertEqual(check(bytes_of("(" * 3000)), [0, 2, 1, 1])
        self.assertEqual(check(bytes_of("const a=" + "(" * 2900)), [0, 6, 1, 21])
        self.assertEqual(check(bytes_of("const a=" + "-" * 2900)), [0, 6, 1, 21])
        self.assertEqual(check(bytes_of("desk d{" + "if 1{" * 500)), [0, 6, 1, 38])
