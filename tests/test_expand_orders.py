"""expand: what the tops and statements of a sheet do, and what is refused there (-14, -15, -16)."""

from ordersheets.sheets import expand
from tests.helper import EXAMPLE, MARKET, SheetCase, bytes_of

SELL = "sell zone 0 quarter 0 price 0 amount 1;"
SOLD = (0, 0, 0, 0, 0, 0, 0, 1)


def step(amount, desk=0):
    """The row of a step order that sells in zone 0 and quarter 0 at price 0."""
    return (0, desk, 0, 0, 0, 0, 0, amount)


def sell(amount):
    return f"sell zone 0 quarter 0 price 0 amount {amount};"


def block_row(amount, parent=-1, desk=0):
    return (1, desk, 0, 0, 0, 0, parent, amount, amount)


def block(amount, name="", under=""):
    behind = f" under {under}" if under else ""
    return f"block {name} sell zone 0 price 0 amount q: {amount}{behind};"


class DeskCase(SheetCase):
    def assert_desk(self, rows, statements, market=MARKET):
        self.assert_orders(rows, "desk d { " + statements + " }", market)

    def assert_desk_refused(self, number, statements, market=MARKET):
        self.assert_refused(number, "desk d { " + statements + " }", market)


class Examples(DeskCase):
    def test_the_example(self):
        self.assertEqual(expand(2, 2, 0, 100, bytes_of(EXAMPLE)), [
            0, 4,
            8, 0, 0, 0, 0, 0, 10, 20, 100,
            8, 0, 0, 0, 1, 0, 15, 25, 200,
            9, 1, 0, 1, 1, 40, 0, -1, 7, 0,
            9, 1, 0, 1, 1, 30, 2, 2, 3, 3])

    def test_no_orders(self):
        for text in ("", "# nothing", "const a = 1;", "fun f(x) = 1 / 0;", "desk d { }", "desk d { let a = 1; }",
                     "desk d { for i in 1 .. 9 { if i { } } }"):
            self.assertEqual(expand(*MARKET, bytes_of(text)), [0, 0])


class Rows(DeskCase):
    def test_a_step_order(self):
        market = (6, 4, -50, 90)
        self.assert_desk([(0, 0, 5, 3, 0, -7, -7, 11)], "sell zone 5 quarter 3 price -7 amount 11;", market)
        self.assert_desk([(0, 0, 4, 2, 1, -7, -7, 11)], "buy zone 4 quarter 2 price -7 amount 11;", market)
        self.assert_desk([(0, 0, 3, 1, 0, -7, 8, 11)], "sell zone 3 quarter 1 price -7 to 8 amount 11;", market)
        self.assert_desk([(0, 0, 1, 0, 1, 8, 9, 11)], "buy zone 1 quarter 0 price 8 to 9 amount 11;", market)

    def test_a_block(self):
        for quarters in (1, 2, 3, 4):
            market = (6, quarters, -50, 90)
            amounts = tuple(range(10, 10 + quarters))
            self.assert_desk([(1, 0, 5, 0, -7, 0, -1) + amounts],
                             "block sell zone 5 price -7 amount t: 10 + t;", market)
            self.assert_desk([(1, 0, 2, 1, 8, 9, -1) + amounts],
                             "block b buy zone 2 price 8 amount t: 10 + t group 9;", market)

    def test_orders_keep_their_order(self):
        self.assert_desk([step(1), block_row(2), step(3), block_row(4)], sell(1) + block(2) + sell(3) + block(4))


class Tops(DeskCase):
    def test_consts(self):
        self.assert_orders([step(5)], "const a = 2; const b = a + 3; desk d { " + sell("b") + " }")
        self.assert_orders([step(1), step(2, 1)],
                           "const a = 1; desk d { " + sell("a") + " } const b = a + 1; desk e { " + sell("b") + " }")

    def test_a_const_is_worked_out_even_if_nobody_asks(self):
        self.assert_refused(-11, "const a = 1 / 0;")
        self.assert_refused(-11, "desk d { " + SELL + " } const a = 1 / 0;")

    def test_a_function_is_worked_out_only_where_it_is_called(self):
        self.assert_orders([], "fun f() = 1 / 0; const a = 0 && f();")
        self.assert_refused(-11, "fun f() = 1 / 0; const a = f();")

    def test_desks_are_numbered(self):
        text = "desk d { " + SELL + " } desk e { } const a = 1; desk f { " + SELL + block(1) + " }"
        self.assert_orders([step(1, 0), step(1, 2), block_row(1, -1, 2)], text)

    def test_names_of_one_desk_may_be_given_again_in_another(self):
        self.assert_orders([step(1), step(2, 1), step(3, 1)],
                           "desk d { let x = 1; " + sell("x") + " } desk e { let x = 2; " + sell("x")
                           + " for y in 3 .. 3 { " + sell("y") + " } }")


class Statements(DeskCase):
    def test_let(self):
        self.assert_desk([step(3)], "let x = 1; let y = x + 1; " + sell("x + y"))
        self.assert_desk([step(6)], "let x = sum(x in 1 .. 3: x); " + sell("x"))
        self.assert_desk_refused(-11, "let x = 1 / 0;")

    def test_let_in_braces(self):
        self.assert_desk([step(1), step(2)], "if 1 { let x = 1; " + sell("x") + " } let x = 2; " + sell("x"))
        self.assert_desk([step(10), step(20)], "for i in 1 .. 2 { let x = i * 10; " + sell("x") + " }")

    def test_for(self):
        self.assert_desk([step(3), step(4), step(5)], "for i in 3 .. 5 { " + sell("i") + " }")
        self.assert_desk([step(3)], "for i in 3 .. 3 { " + sell("i") + " }")
        self.assert_desk([], "for i in 3 .. 2 { " + sell("1 / 0") + " }")
        self.assert_desk([step(1), step(2)], "for i in -2 .. -1 { " + sell("i + 3") + " }")
        self.assert_desk([step(12), step(13), step(22), step(23)],
                         "for i in 1 .. 2 { for j in 2 .. 3 { " + sell("i * 10 + j") + " } }")

    def test_for_at_the_greatest(self):
        top = "999999999999999999 + 1"
        self.assert_desk([step(1), step(2)], f"for i in {top} - 1 .. {top} {{ " + sell(f"i - ({top}) + 2") + " }")

    def test_bounds_of_a_for(self):
        self.assert_desk_refused(-11, "for i in 1 / 0 .. 999999999999999999 * 2 { }")
        self.assert_desk_refused(-12, "for i in 999999999999999999 * 2 .. 1 / 0 { }")
        self.assert_desk_refused(-11, "for i in 5 .. 1 / 0 { }")

    def test_a_name_within_a_for_leaves_its_turns_alone(self):
        given = "fun f(i) = i * 100; desk d { for i in 1 .. 3 { let x = f(7) + f(i); "
        self.assert_orders([step(801), step(902), step(1003)], given + sell("x + i") + " } }")
        given = "fun f(n) = sum(i in 1 .. n: i); desk d { for i in 1 .. 3 { let x = f(4); "
        self.assert_orders([step(11), step(12), step(13)], given + sell("x + i") + " } }")

    def test_if(self):
        for condition in ("1", "-1", "7", "1 < 2"):
            self.assert_desk([step(1)], f"if {condition} {{ " + sell(1) + " }")
            self.assert_desk([step(1)], f"if {condition} {{ " + sell(1) + " } else { " + sell("1 / 0") + " }")
        for condition in ("0", "-0", "2 < 1"):
            self.assert_desk([], f"if {condition} {{ " + sell("1 / 0") + " }")
            self.assert_desk([step(2)], f"if {condition} {{ " + sell("1 / 0") + " } else { " + sell(2) + " }")
        self.assert_desk([step(1), step(2), step(3)], "if 1 { " + sell(1) + sell(2) + " } " + sell(3))
        self.assert_desk_refused(-11, "if 1 / 0 { }")

    def test_deep_braces(self):
        self.assert_desk([SOLD], "if 1 { " * 6 + SELL + " }" * 6)
        self.assert_desk([SOLD], "if 0 { } else { " * 6 + SELL + " }" * 6)
        fors = "".join(f"for i{number} in 0 .. 1 {{ " for number in range(5))
        self.assert_desk([SOLD] * 32, fors + SELL + " }" * 5)

    def test_many_statements(self):
        self.assert_desk([SOLD], "if 0{}" * 400 + SELL)
        self.assert_desk([SOLD], "".join(f"let x{number}=1;" for number in range(200)) + SELL)


class Ranges(DeskCase):
    """-14, at both ends of each range."""

    def assert_range(self, least, most, statement, market=MARKET):
        """The statement has a {0} where numbers from least to most may stand, and no others."""
        for number in (least, most):
            self.assertEqual(expand(*market, bytes_of("desk d { " + statement.format(number) + " }"))[0], 0)
        for number in (least - 1, most + 1, -10 ** 17, 10 ** 17):
            self.assert_desk_refused(-14, statement.format(number), market)

    def test_zone(self):
        for zones in range(1, 7):
            market = (zones, 1, 0, 0)
            self.assert_range(0, zones - 1, "sell zone {0} quarter 0 price 0 amount 1;", market)
            self.assert_range(0, zones - 1, "block sell zone {0} price 0 amount t: 1;", market)

    def test_quarter(self):
        for quarters in range(1, 5):
            self.assert_range(0, quarters - 1, "sell zone 0 quarter {0} price 0 amount 1;", (1, quarters, 0, 0))

    def test_price(self):
        for low, high in ((0, 100), (-50, 90), (7, 7), (-1000000, 1000000), (-9, -3)):
            market = (1, 1, low, high)
            self.assert_range(low, high, "sell zone 0 quarter 0 price {0} amount 1;", market)
            self.assert_range(low, high, "buy zone 0 quarter 0 price {0} amount 1;", market)
            self.assert_range(low, high, "block sell zone 0 price {0} amount t: 1;", market)

    def test_the_price_behind_to(self):
        for side in ("sell", "buy"):
            self.assert_range(30, 100, side + " zone 0 quarter 0 price 30 to {0} amount 1;")
            self.assert_range(0, 60, side + " zone 0 quarter 0 price {0} to 60 amount 1;")
        self.assert_desk([(0, 0, 0, 0, 0, 30, 30, 1)], "sell zone 0 quarter 0 price 30 to 30 amount 1;")
        self.assert_desk_refused(-14, "sell zone 0 quarter 0 price 30 to 29 amount 1;")

    def test_the_difference_of_both_prices(self):
        market = (1, 1, -1000000, 1000000)
        for low in (-1000000, -5000, 0, 123):
            self.assert_range(low, low + 10000, f"sell zone 0 quarter 0 price {low} to {{0}} amount 1;", market)
        widest = "sell zone 0 quarter 0 price -4000 to 6000 amount 1;"
        self.assert_desk([(0, 0, 0, 0, 0, -4000, 6000, 1)], widest, market)
        self.assert_desk_refused(-14, "sell zone 0 quarter 0 price -4000 to 6001 amount 1;", market)
        self.assert_desk_refused(-14, "sell zone 0 quarter 0 price -4001 to 6000 amount 1;", market)

    def test_amount(self):
        self.assert_range(0, 10 ** 9, "sell zone 0 quarter 0 price 0 amount {0};")
        self.assert_range(0, 10 ** 9, "buy zone 0 quarter 0 price 0 to 9 amount {0};")
        self.assert_range(0, 10 ** 9, "block sell zone 0 price 0 amount t: {0};")
        self.assert_range(0, 10 ** 9, "block sell zone 0 price 0 amount t: if t == 0 then {0} else 5;")
        self.assert_range(0, 10 ** 9, "block sell zone 0 price 0 amount t: if t == 1 then {0} else 0;")
        self.assert_range(0, 10 ** 9, "block buy zone 0 price 0 amount t: if t == 3 then {0} else 0;", (1, 4, 0, 0))
        self.assert_desk([step(10 ** 9)], sell(10 ** 9))
        self.assert_desk([(1, 0, 0, 0, 0, 0, -1) + (10 ** 9,) * 4], block(10 ** 9), (1, 4, 0, 0))
        self.assert_desk_refused(-14, "block sell zone 0 price 0 amount t: if t == 0 then -5 else 5;")

    def test_group(self):
        self.assert_range(0, 9, "block sell zone 0 price 0 amount t: 1 group {0};")
        for group in range(10):
            self.assert_desk([(1, 0, 0, 0, 0, group, -1, 1, 1)],
                             f"block sell zone 0 price 0 amount t: 1 group {group};")

    def test_also_where_there_would_be_no_order(self):
        self.assert_desk_refused(-14, "sell zone 2 quarter 0 price 0 amount 0;")
        self.assert_desk_refused(-14, "sell zone 0 quarter 2 price 0 amount 0;")
        self.assert_desk_refused(-14, "sell zone 0 quarter 0 price 101 amount 0;")
        self.assert_desk_refused(-14, "sell zone 0 quarter 0 price 50 to 49 amount 0;")
        self.assert_desk_refused(-14, "block sell zone 2 price 0 amount t: 0;")
        self.assert_desk_refused(-14, "block sell zone 0 price 101 amount t: 0;")
        self.assert_desk_refused(-14, "block sell zone 0 price 0 amount t: 0 group 10;")

    def test_all_is_worked_out_first(self):
        for number, broken in ((-11, "1 / 0"), (-12, "999999999999999999 * 2")):
            self.assert_desk_refused(number, f"sell zone 9 quarter 9 price 999 to 0 amount {broken};")
            self.assert_desk_refused(number, f"sell zone 9 quarter 9 price 999 to {broken} amount -1;")
            self.assert_desk_refused(number, f"block sell zone 9 price 999 amount t: {broken};")
            self.assert_desk_refused(number, f"block sell zone 9 price 999 amount t: -1 group {broken};")

    def assert_parts_in_order(self, begin, words):
        """Of any two parts that can't be worked out, the one that stands first decides."""
        broken = ((-11, "1 / 0"), (-12, "999999999999999999 * 2"))
        for first in range(len(words)):
            for second in range(first + 1, len(words)):
                for (number, exp), (_, other) in (broken, broken[::-1]):
                    exps = ["0"] * len(words)
                    exps[first], exps[second] = exp, other
                    parts = " ".join(f"{word} {part}" for word, part in zip(words, exps))
                    self.assert_desk_refused(number, f"{begin} {parts};")

    def test_parts_are_worked_out_in_order(self):
        self.assert_parts_in_order("sell", ("zone", "quarter", "price", "amount"))
        self.assert_parts_in_order("buy", ("zone", "quarter", "price", "to", "amount"))
        self.assert_parts_in_order("block sell", ("zone", "price", "amount t:"))
        self.assert_parts_in_order("block b buy", ("zone", "price", "amount t:", "group"))
        begin = "block sell zone 0 price 0 amount t: if"
        self.assert_desk_refused(-11, f"{begin} t == 0 then 1 / 0 else 999999999999999999 * 2;")
        self.assert_desk_refused(-12, f"{begin} t == 1 then 1 / 0 else 999999999999999999 * 2;")


class NoOrders(DeskCase):
    def test_a_step_of_an_amount_0(self):
        self.assert_desk([], sell(0))
        self.assert_desk([step(1), step(2)], sell(1) + sell(0) + sell(2))

    def test_a_block_whose_amounts_are_all_0(self):
        self.assert_desk([], block(0))
        self.assert_desk([(1, 0, 0, 0, 0, 0, -1, 0, 3)], block("if q == 1 then 3 else 0"))
        self.assert_desk([(1, 0, 0, 0, 0, 0, -1, 3, 0)], block("if q == 0 then 3 else 0"))
        self.assert_desk([(1, 0, 0, 0, 0, 0, -1, 0, 1)], block("q"))
        self.assert_desk([(1, 0, 0, 0, 0, 0, -1, 1)], block(1), (1, 1, 0, 0))

    def test_such_a_block_needs_no_parent(self):
        self.assert_desk([], block(0, "p") + block(0, "", "p"))
        self.assert_desk_refused(-16, block(0, "p") + block(1, "", "p"))


class Counts(DeskCase):
    def test_48_orders(self):
        self.assert_desk([SOLD] * 48, "for i in 1 .. 48 { " + SELL + " }")
        self.assert_desk([block_row(1)] * 48, "for i in 1 .. 48 { " + block(1) + " }")
        self.assert_desk([SOLD, block_row(1)] * 24, "for i in 1 .. 24 { " + SELL + block(1) + " }")

    def test_49_orders(self):
        self.assert_desk_refused(-15, "for i in 1 .. 49 { " + SELL + " }")
        self.assert_desk_refused(-15, "for i in 1 .. 49 { " + block(1) + " }")
        self.assert_desk_refused(-15, "for i in 1 .. 24 { " + SELL + block(1) + " } " + SELL)
        self.assert_desk_refused(-15, "for i in 1 .. 24 { " + SELL + block(1) + " } " + block(1))
        forty, nine = ("for i in 1 .. " + count + " { " + SELL + " }" for count in ("40", "9"))
        self.assert_refused(-15, "desk d { " + forty + " } desk e { " + nine + " }")

    def test_what_makes_no_order_is_let_behind_the_48th(self):
        self.assert_desk([SOLD] * 48, "for i in 1 .. 48 { " + SELL + " } " + sell(0) + block(0) + "let x = 1;")


class Parents(DeskCase):
    def test_under_a_block(self):
        self.assert_desk([block_row(1), block_row(2, 0)], block(1, "p") + block(2, "", "p"))
        self.assert_desk([SOLD, block_row(1), SOLD, block_row(2, 1)], SELL + block(1, "p") + SELL + block(2, "", "p"))
        self.assert_desk([block_row(1), block_row(2, 0), block_row(3, 1), block_row(4, 0)],
                         block(1, "p") + block(2, "r", "p") + block(3, "", "r") + block(4, "", "p"))

    def test_all_that_a_block_may_have(self):
        self.assert_desk([block_row(1), (1, 0, 1, 1, 40, 6, 0, 2, 3)],
                         block(1, "p") + "block r buy zone 1 price 40 amount t: t + 2 under p group 6;")

    def test_a_block_in_a_loop_names_its_last_order(self):
        self.assert_desk([block_row(1), block_row(2), block_row(3), block_row(9, 2)],
                         "for i in 1 .. 3 { " + block("i", "p") + " } " + block(9, "", "p"))
        self.assert_desk([block_row(1), block_row(9, 0), block_row(2), block_row(9, 2)],
                         "for i in 1 .. 2 { " + block("i", "p") + block(9, "", "p") + " } ")

    def test_a_block_without_order_goes_on_naming_what_it_named(self):
        self.assert_desk([block_row(1), block_row(9, 0), block_row(9, 0)],
                         "for i in 0 .. 1 { " + block("1 - i", "p") + block(9, "", "p") + " }")
        self.assert_desk([block_row(2), block_row(1), block_row(9, 1)],
                         "for i in 0 .. 2 { " + block("2 - i", "p") + " } " + block(9, "", "p"))

    def test_a_block_under_one_that_comes_later_in_the_turns(self):
        turns = "for i in 0 .. 1 { if i { " + block(9, "", "p") + " } else { } } "
        self.assert_desk_refused(-16, "if 0 { " + block(1, "p") + " } " + turns)
        self.assert_desk([block_row(1), block_row(9, 0)],
                         "for i in 0 .. 1 { if 1 - i { " + block(1, "p") + " } else { " + block(9, "", "p") + " } }")
        self.assert_desk_refused(
            -16, "for i in 0 .. 1 { if i { " + block(1, "p") + " } else { " + block(9, "", "p") + " } }")

    def test_in_other_braces(self):
        self.assert_desk([block_row(1), block_row(2, 0)], "if 1 { " + block(1, "p") + " } " + block(2, "", "p"))
        self.assert_desk_refused(-16, "if 0 { " + block(1, "p") + " } " + block(2, "", "p"))

    def test_at_a_desks_beginning_no_name_names_an_order(self):
        first = "desk d { " + block(1, "p") + " } "
        again = "desk e { if 0 { " + block(1, "p") + " } " + block(2, "", "p") + " }"
        self.assert_refused(-16, first + again)
        self.assert_orders([block_row(1), block_row(3, -1, 1), block_row(2, 1, 1)],
                           first + "desk e { " + block(3, "p") + block(2, "", "p") + " }")
        self.assert_refused(-16, first + "desk e { " + block(0, "p") + block(2, "", "p") + " }")

    def test_blocks_names_are_no_values(self):
        self.assert_orders([block_row(4), block_row(5, 0)],
                           "const p = 4; desk d { " + block("p", "p") + block("p + 1", "", "p") + " }")

    def test_the_parent_is_asked_ahead_of_the_count(self):
        full = "for i in 1 .. 48 { " + SELL + " } "
        never = "if 0 { " + block(1, "p") + " } "
        self.assert_desk_refused(-16, full + never + block(1, "", "p"))
        self.assert_desk_refused(-15, full + never + block(1))

    def test_ranges_are_asked_ahead_of_the_parent_and_the_count(self):
        full = "for i in 1 .. 48 { " + SELL + " } "
        never = "if 0 { " + block(1, "p") + " } "
        self.assert_desk_refused(-14, full + never + block(-1, "", "p"))
        self.assert_desk_refused(-14, full + sell(-1))
        self.assert_desk_refused(-11, full + never + block("1 / 0", "", "p"))
        self.assert_desk_refused(-12, full + sell("999999999999999999 * 2"))


class WhichFirst(DeskCase):
    def test_what_comes_first_in_the_sheet_decides(self):
        broken = (
            (-11, "let a{0} = 1 / 0;"), (-12, "let a{0} = 999999999999999999 * 2;"),
            (-13, "for a{0} in 1 .. 10000 {{ }}"),
            (-14, "sell zone 9 quarter 0 price 0 amount 1;"), (-15, "for a{0} in 1 .. 49 {{ " + SELL + " }}"),
            (-16, "if 0 {{ " + block(1, "p{0}") + " }} " + block(1, "", "p{0}")),
        )
        for number, first in broken:
            for other in broken:
                self.assert_desk_refused(number, first.format(0) + other[1].format(1))
                self.assert_refused(number, "desk d { " + first.format(0) + " } desk e { " + other[1].format(0) + " }")
