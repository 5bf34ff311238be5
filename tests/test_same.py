"""same: whether two sheets have the same orders, and which of two refusals is answered."""

import unittest

from ordersheets.sheets import same
from tests.helper import EXAMPLE, MARKET, REFUSED, bytes_of, orders_of

WIDE = (6, 4, -1000, 20000)

STEP = {"side": "sell", "zone": "1", "quarter": "1", "price": "10", "to": "20", "amount": "30"}
BLOCK = {"side": "sell", "zone": "1", "price": "10", "under": "p", "group": "2", "amounts": (4, 5, 6, 7)}

# Makes two orders on which others may hang.
PARENTS = "block p sell zone 0 price 0 amount t: 1; block q sell zone 0 price 0 amount t: 1; "


def desk(statements, name="d"):
    return f"desk {name} {{ {statements} }} "


def step(**changed):
    told = {**STEP, **changed}
    return "{side} zone {zone} quarter {quarter} price {price} to {to} amount {amount}; ".format(**told)


def block(**changed):
    told = {**BLOCK, **changed}
    amounts = "".join(f"if t == {quarter} then {amount} else " for quarter, amount in enumerate(told["amounts"]))
    under = f"under {told['under']} " if told["under"] else ""
    return "block {side} zone {zone} price {price} amount t: {all}0 {hung}group {group}; ".format(
        all=amounts, hung=under, **told)


class SameCase(unittest.TestCase):
    def assert_answer(self, answer, text, other, market=WIDE):
        self.assertEqual(same(*market, bytes_of(text), bytes_of(other)), answer, (text, other))

    def assert_same(self, text, other, market=WIDE):
        self.assert_answer([0, 1], text, other, market)
        self.assert_answer([0, 1], other, text, market)

    def assert_not_same(self, text, other, market=WIDE):
        self.assert_answer([0, 0], text, other, market)
        self.assert_answer([0, 0], other, text, market)
        self.assert_answer([0, 1], text, text, market)
        self.assert_answer([0, 1], other, other, market)


class TheSame(SameCase):
    def test_a_text_and_itself(self):
        self.assert_same(EXAMPLE, EXAMPLE, MARKET)
        for text in ("", desk(""), desk(step()), desk(PARENTS + block()), desk(step() * 48)):
            self.assert_same(text, text)

    def test_the_same_list_handed_in_twice(self):
        text = bytes_of(EXAMPLE)
        self.assertEqual(same(*MARKET, text, text), [0, 1])

    def test_comments_and_blanks(self):
        self.assert_same(EXAMPLE, EXAMPLE.replace("\n", " # a remark\n\t\r\n"), MARKET)
        self.assert_same(desk(step()), desk(step()).replace(" ", "\n") + "# the end")

    def test_names(self):
        named = "const a = 7; fun f(x) = x + a; desk d { let y = f(1); sell zone 0 quarter 0 price y amount a; }"
        other = "const b = 7; fun g(z) = z + b; desk e { let c = g(1); sell zone 0 quarter 0 price c amount b; }"
        self.assert_same(named, other)
        self.assert_same(desk(PARENTS + block()), desk(PARENTS.replace(" p ", " first ") + block(under="first")))
        self.assert_same(desk(PARENTS), desk(PARENTS.replace(" p ", " ").replace(" q ", " ")))
        self.assert_same(desk(PARENTS), desk(PARENTS.replace(" t: ", " u: ")))
        self.assert_same(desk(step()), desk(step(), "other"))

    def test_values_written_otherwise(self):
        self.assert_same(desk(step()), "const one = 1; " + desk("let ten = 10; " + step(zone="one", price="ten")))
        self.assert_same(desk(step()), desk(step(amount="5 * 6", to="0020", quarter="(1)")))
        self.assert_same(desk(step(to="10")), desk(step().replace("to 20 ", "")))
        self.assert_same(desk(block(under="", group="0")), desk(block(under="").replace("group 2", "")))

    def test_what_makes_no_order(self):
        nothing = (
            "let a = 1;", "for i in 1 .. 3 { }", "for i in 1 .. 0 { " + step() + "}", "if 0 { " + step() + "}",
            "if 1 { } else { " + step() + "}", step(amount="0"), block(under="", amounts=()))
        for statement in nothing:
            self.assert_same(desk(step()), desk(statement + step()))
            self.assert_same(desk(step()), desk(step() + statement))
        self.assert_same(desk(step()), desk(step()) + desk("", "e") + "const a = 1; fun f() = a;")

    def test_loops_and_orders_one_by_one(self):
        self.assert_same(desk("for i in 0 .. 3 { " + step(quarter="i") + "}"),
                         desk("".join(step(quarter=str(quarter)) for quarter in range(4))))

    def test_the_orders_of_desks_that_stand_otherwise(self):
        self.assert_same(desk(step()) + "const a = 1; " + desk(step(), "e"),
                         desk(step()) + desk("let b = 2; " + step(), "f"))

    def test_sheets_without_orders(self):
        empty = ("", "# nothing", desk(""), "const a = 1;", desk("") + desk("", "e"), desk(step(amount="0")))
        for text in empty:
            for other in empty:
                self.assert_same(text, other)

    def test_different_steps_taken(self):
        self.assert_same(desk(step()), desk("for i in 1 .. 9000 { } " + step()))


class NotTheSame(SameCase):
    def test_the_desk(self):
        self.assert_not_same(desk(step()), desk("", "e") + desk(step()))
        self.assert_not_same(desk(PARENTS), desk("", "e") + desk(PARENTS))
        self.assert_not_same(desk(step() * 2), desk(step()) + desk(step(), "e"))

    def test_each_number_of_a_step_order(self):
        for changed in ({"zone": "2"}, {"quarter": "2"}, {"side": "buy"}, {"price": "11"}, {"to": "21"},
                        {"amount": "31"}, {"price": "-10"}, {"amount": "1000000000"}):
            self.assert_not_same(desk(step()), desk(step(**changed)))
            self.assert_not_same(desk(step() * 3), desk(step() * 2 + step(**changed)))
            self.assert_not_same(desk(step() * 3), desk(step(**changed) + step() * 2))

    def test_each_number_of_a_block(self):
        base = desk(PARENTS + block())
        for changed in ({"zone": "2"}, {"side": "buy"}, {"price": "11"}, {"group": "3"}, {"under": "q"}, {"under": ""},
                        {"amounts": (9, 5, 6, 7)}, {"amounts": (4, 9, 6, 7)}, {"amounts": (4, 5, 9, 7)},
                        {"amounts": (4, 5, 6, 9)}, {"amounts": (5, 4, 6, 7)}, {"amounts": (4, 5, 6)}):
            self.assert_not_same(base, desk(PARENTS + block(**changed)))
            self.assert_not_same(base + desk(step(), "e"), desk(PARENTS + block(**changed)) + desk(step(), "e"))

    def test_the_amount_of_each_quarter_in_smaller_markets(self):
        for quarters in range(1, 5):
            market = (2, quarters, 0, 100)
            for quarter in range(4):
                amounts = [9 if number == quarter else amount for number, amount in enumerate(BLOCK["amounts"])]
                pair = desk(PARENTS + block()), desk(PARENTS + block(amounts=amounts))
                if quarter < quarters:
                    self.assert_not_same(*pair, market)
                else:
                    self.assert_same(*pair, market)

    def test_another_order(self):
        self.assert_not_same(desk(step() + step(zone="2")), desk(step(zone="2") + step()))
        self.assert_not_same(desk(step() + block(under="")), desk(block(under="") + step()))
        self.assert_not_same(desk(block(under="") + block(under="", group="3")),
                             desk(block(under="", group="3") + block(under="")))

    def test_one_order_more(self):
        for one in (step(), block(under="")):
            self.assert_not_same("", desk(one))
            self.assert_not_same(desk(one), desk(one * 2))
            self.assert_not_same(desk("for i in 1 .. 47 { " + one + "}"), desk("for i in 1 .. 48 { " + one + "}"))
        self.assert_not_same(desk(step()), desk(step() + block(under="")))
        self.assert_not_same(desk(step()), desk(block(under="") + step()))

    def test_a_step_order_and_a_block(self):
        self.assert_not_same(desk(step()), desk(block(under="")))

    def test_a_step_order_and_a_block_of_the_same_numbers(self):
        market = (2, 1, 0, 100)
        text = desk(PARENTS + "sell zone 1 quarter 0 price 0 amount 9;")
        other = desk(PARENTS + "block sell zone 1 price 0 amount t: 9 under p;")
        self.assertEqual(orders_of(text, market)[2], (0, 0, 1, 0, 0, 0, 0, 9))
        self.assertEqual(orders_of(other, market)[2], (1, 0, 1, 0, 0, 0, 0, 9))
        self.assert_not_same(text, other, market)


class Markets(SameCase):
    def test_both_sheets_are_expanded_in_this_market(self):
        text, other = desk(step()), desk(step(to="20"))
        self.assert_answer([0, 1], text, other, (2, 2, 10, 20))
        for market in ((1, 2, 10, 20), (2, 1, 10, 20), (2, 2, 11, 20), (2, 2, 10, 19)):
            self.assert_answer([-14], text, other, market)
            self.assert_answer([-14], text, "", market)
            self.assert_answer([-14], "", text, market)


class Refusals(SameCase):
    def test_the_first_text_alone(self):
        for number, text in REFUSED.items():
            self.assert_answer([number], text, "", MARKET)
            self.assert_answer([number], text, EXAMPLE, MARKET)
            self.assert_answer([-3], text + "@", EXAMPLE, MARKET)

    def test_the_second_text_alone(self):
        for number, text in REFUSED.items():
            self.assert_answer([number], "", text, MARKET)
            self.assert_answer([number], EXAMPLE, text, MARKET)
            self.assert_answer([-3], EXAMPLE, text + "@", MARKET)

    def test_of_both_the_first_decides(self):
        refused = {**REFUSED, -3: "desk d {"}
        for number, text in refused.items():
            for other in refused.values():
                self.assert_answer([number], text, other, MARKET)

    def test_each_text_has_its_own_steps_and_orders(self):
        steps = "desk d { for i in 1 .. 9997 { } }"
        self.assert_answer([0, 1], steps, steps, MARKET)
        self.assert_answer([-13], steps.replace("9997", "9998"), steps, MARKET)
        self.assert_answer([-13], steps, steps.replace("9997", "9998"), MARKET)
        orders = "desk d { for i in 1 .. 48 { buy zone 0 quarter 0 price 0 amount i; } }"
        self.assert_answer([0, 1], orders, orders, MARKET)
        self.assert_answer([-15], orders, orders.replace("48", "49"), MARKET)

    def test_names_of_the_first_text_are_not_known_in_the_second(self):
        self.assert_answer([-3], "const a = 1;", "const b = a;", MARKET)
        given = "const a = 1; fun f() = 1; desk d { }"
        self.assert_answer([0, 1], given, given, MARKET)
        parent = "block p sell zone 0 price 0 amount t: {}; "
        child = "block sell zone 0 price 0 amount t: 1 under p;"
        self.assert_answer([-16], desk(parent.format(1) + child), desk(parent.format(0) + child), MARKET)


class NotAsTold(SameCase):
    def test_a_text_that_is_none(self):
        sound, faulty = bytes_of(EXAMPLE), bytes_of("desk d {")
        refused = [bytes_of(text) for text in REFUSED.values()]
        for text in ([32] * 3001, [32] * 4000, [256], [-1], sound + [10 ** 18], [-10 ** 18] + sound):
            for other in [[], sound, faulty, text, *refused]:
                self.assertEqual(same(*MARKET, text, other), [-1])
                self.assertEqual(same(*MARKET, other, text), [-1])

    def test_a_market_that_is_none(self):
        texts = [bytes_of(text) for text in ("", EXAMPLE, "desk d {", *REFUSED.values())] + [[256]]
        for market in ((0, 2, 0, 100), (7, 2, 0, 100), (2, 0, 0, 100), (2, 5, 0, 100), (2, 2, -1000001, 100),
                       (2, 2, 1000001, 1000001), (2, 2, 0, 1000001), (2, 2, -1000001, -1000001), (2, 2, 1, 0)):
            for text in texts:
                for other in texts:
                    self.assertEqual(same(*market, text, other), [-1])

    def test_two_texts_of_3000_bytes(self):
        text = bytes_of(EXAMPLE)
        longest = text + [32] * (3000 - len(text))
        self.assertEqual(same(*MARKET, longest, longest), [0, 1])
        self.assertEqual(same(*MARKET, longest, [32] * 3000), [0, 0])
        self.assertEqual(same(*MARKET, longest, longest + [32]), [-1])
        self.assertEqual(same(*MARKET, longest + [32], longest), [-1])

    def test_both_lists_stay_as_they_were(self):
        texts = [bytes_of(text) for text in ("", EXAMPLE, "desk d {", *REFUSED.values())] + [[256], [32] * 3001]
        for text in texts:
            for other in texts:
                handed, also = list(text), list(other)
                same(*MARKET, handed, also)
                self.assertEqual((handed, also), (text, other))
