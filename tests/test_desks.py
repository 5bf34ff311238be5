"""desks: how many orders each desk has, and how much they sell and buy."""

import unittest

from ordersheets.sheets import desks
from tests.helper import EXAMPLE, MARKET, REFUSED, bytes_of

WIDE = (6, 4, 0, 100)
BILLION = 10 ** 9

SELL = "sell zone 0 quarter 0 price 1 amount {}; "
BUY = "buy zone 0 quarter 0 price 1 amount {}; "
BLOCK_SELL = "block sell zone 0 price 1 amount t: {}; "
BLOCK_BUY = "block buy zone 0 price 1 amount t: {}; "
NONE = (0, 0, 0, 0)


def sheet(*all_statements):
    """A sheet with a desk of each of these statements."""
    return " ".join(f"desk d{number} {{ {statements} }}" for number, statements in enumerate(all_statements))


class DesksCase(unittest.TestCase):
    def assert_desks(self, told, text, market=WIDE):
        """Each desk is told by its step orders, its block orders, and what they sell and buy."""
        answer = desks(*market, bytes_of(text))
        self.assertEqual(answer, [0, len(told)] + [number for desk in told for number in desk], text)

    def assert_desk(self, told, statements, market=WIDE):
        self.assert_desks([told], sheet(statements), market)


class Desks(DesksCase):
    def test_the_example(self):
        self.assert_desks([(2, 2, 300, 7 + 6)], EXAMPLE, MARKET)

    def test_no_desks(self):
        for text in ("", "# nothing", "const a = 1;", "fun f(x) = x; const a = f(1);"):
            self.assert_desks([], text)

    def test_desks_without_orders(self):
        self.assert_desks([NONE], sheet(""))
        self.assert_desks([NONE] * 3, sheet("", "", ""))
        self.assert_desks([NONE] * 250, "".join(f"desk d{number:03}{{}}" for number in range(250)))

    def test_desks_without_orders_before_and_behind_others(self):
        one = (1, 0, 5, 0)
        some = SELL.format(5)
        self.assert_desks([NONE, one], sheet("", some))
        self.assert_desks([one, NONE], sheet(some, ""))
        self.assert_desks([NONE, one, NONE, NONE, one, NONE], sheet("", some, "", "", some, ""))

    def test_statements_that_make_none(self):
        nothing = (
            SELL.format(0), BUY.format(0), BLOCK_SELL.format(0), BLOCK_BUY.format(0), "let a = 1; ",
            "for i in 1 .. 0 { " + SELL.format(5) + "} ", "for i in 1 .. 3 { } ", "if 0 { " + SELL.format(5) + "} ",
            "if 1 { } else { " + BLOCK_SELL.format(5) + "} ")
        for statement in nothing:
            self.assert_desk(NONE, statement)
            self.assert_desk((1, 0, 0, 7), statement + BUY.format(7))
            self.assert_desks([(1, 0, 7, 0), NONE, (0, 1, 0, 12)],
                              sheet(SELL.format(7), statement, BLOCK_BUY.format(3)))
        self.assert_desk(NONE, "".join(nothing).replace("let a = 1;", ""))

    def test_consts_and_functions_between_desks_are_none(self):
        self.assert_desks([(1, 0, 3, 0), (1, 0, 0, 4)], "const a = 3; desk d { " + SELL.format("a") + "} fun f() = 4;"
                          " const b = f(); desk e { " + BUY.format("b") + "} const c = 1;")


class Orders(DesksCase):
    def test_each_kind_of_order(self):
        self.assert_desk((1, 0, 5, 0), SELL.format(5))
        self.assert_desk((1, 0, 0, 5), BUY.format(5))
        self.assert_desk((0, 1, 20, 0), BLOCK_SELL.format(5))
        self.assert_desk((0, 1, 0, 20), BLOCK_BUY.format(5))

    def test_all_kinds_in_one_desk(self):
        self.assert_desk((1, 1, 5 + 28, 0), SELL.format(5) + BLOCK_SELL.format(7))
        self.assert_desk((1, 1, 0, 5 + 28), BUY.format(5) + BLOCK_BUY.format(7))
        self.assert_desk((2, 0, 5, 7), SELL.format(5) + BUY.format(7))
        self.assert_desk((0, 2, 20, 28), BLOCK_SELL.format(5) + BLOCK_BUY.format(7))
        self.assert_desk((3, 2, 1 + 100 + 4 * 1000, 10 + 4 * 10000), SELL.format(1) + BUY.format(10) + SELL.format(100)
                         + BLOCK_SELL.format(1000) + BLOCK_BUY.format(10000))

    def test_all_kinds_over_several_desks(self):
        self.assert_desks(
            [(2, 0, 1, 10), (0, 2, 400, 4000), (1, 0, 5, 0), (1, 1, 0, 6 + 28)],
            sheet(SELL.format(1) + BUY.format(10), BLOCK_SELL.format(100) + BLOCK_BUY.format(1000), SELL.format(5),
                  BLOCK_BUY.format(7) + BUY.format(6)))

    def test_orders_of_all_zones_and_quarters_and_prices_count(self):
        statements = "for z in 0 .. 5 { for q in 0 .. 3 { sell zone z quarter q price z to z + q amount 10 + z; } }"
        self.assert_desk((24, 0, 4 * (60 + 15), 0), statements)
        statements = "for z in 0 .. 5 { block buy zone z price 10 * z amount t: z + t; }"
        self.assert_desk((0, 6, 0, 4 * 15 + 6 * 6), statements)

    def test_a_block_counts_with_all_its_amounts(self):
        for quarters in range(1, 5):
            market = (2, quarters, 0, 100)
            total = sum(10 ** quarter for quarter in range(quarters))
            amounts = "if t == 0 then 1 else if t == 1 then 10 else if t == 2 then 100 else 1000"
            self.assert_desk((0, 1, total, 0), BLOCK_SELL.format(amounts), market)
            self.assert_desk((0, 1, 0, total), BLOCK_BUY.format(amounts), market)
            self.assert_desk((0, 1, 0, 8), BLOCK_BUY.format(f"if t == {quarters - 1} then 8 else 0"), market)

    def test_blocks_under_others_and_in_groups(self):
        self.assert_desk((0, 3, 4 * (1 + 2), 12), "block a sell zone 0 price 0 amount t: 1; block b sell zone 1 price 0"
                         " amount t: 2 under a group 3; block buy zone 0 price 0 amount t: 3 under b;")

    def test_loops(self):
        self.assert_desk((10, 10, 55, 4 * 55), "for i in 1 .. 10 { " + SELL.format("i") + BLOCK_BUY.format("i") + "}")

    def test_great_amounts(self):
        self.assert_desk((48, 0, 48 * BILLION, 0), "for i in 1 .. 48 { " + SELL.format(BILLION) + "}")
        self.assert_desk((0, 48, 0, 4 * 48 * BILLION), "for i in 1 .. 48 { " + BLOCK_BUY.format(BILLION) + "}")
        self.assert_desks([(12, 12, 60 * BILLION, 0), (12, 12, 0, 60 * BILLION)], sheet(
            "for i in 1 .. 12 { " + SELL.format(BILLION) + BLOCK_SELL.format(BILLION) + "}",
            "for i in 1 .. 12 { " + BUY.format(BILLION) + BLOCK_BUY.format(BILLION) + "}"))

    def test_48_orders_over_several_desks(self):
        many = "for i in 1 .. 16 { " + SELL.format("i") + "}"
        self.assert_desks([(16, 0, 136, 0)] * 3, sheet(many, many, many))
        self.assertEqual(desks(*WIDE, bytes_of(sheet(many, many, many, SELL.format(1)))), [-15])


class Refusals(DesksCase):
    def test_each_one(self):
        for number, text in REFUSED.items():
            self.assertEqual(desks(*MARKET, bytes_of(text)), [number])
            self.assertEqual(desks(*MARKET, bytes_of("desk z { } " + text)), [number])

    def test_a_fault_comes_ahead_of_these(self):
        for text in REFUSED.values():
            self.assertEqual(desks(*MARKET, bytes_of(text + " @")), [-3])
        self.assertEqual(desks(*MARKET, bytes_of("desk d { } desk d { }")), [-3])

    def test_what_is_not_as_told_comes_ahead_of_all(self):
        texts = [bytes_of(text) for text in ("", EXAMPLE, "desk d {", *REFUSED.values())]
        for text in texts:
            self.assertEqual(desks(*MARKET, text + [256]), [-1])
            self.assertEqual(desks(*MARKET, [-1] + text), [-1])
            self.assertEqual(desks(*MARKET, text + [32] * 3001), [-1])
            for market in ((0, 2, 0, 100), (7, 2, 0, 100), (2, 0, 0, 100), (2, 5, 0, 100), (2, 2, -1000001, 100),
                           (2, 2, 0, 1000001), (2, 2, 1, 0)):
                self.assertEqual(desks(*market, text), [-1])

    def test_whichever_comes_first(self):
        desk = "desk {} {{ {} }} "
        out_of_range = desk.format("a", "sell zone 9 quarter 0 price 0 amount 1;")
        no_divisor = desk.format("b", "let x = 1 / 0;")
        self.assertEqual(desks(*MARKET, bytes_of(out_of_range + no_divisor)), [-14])
        self.assertEqual(desks(*MARKET, bytes_of(no_divisor + out_of_range)), [-11])
