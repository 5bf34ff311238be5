"""curve: supply and demand in a zone and a quarter at a price."""

from ordersheets.sheets import curve
from tests.helper import EXAMPLE, SheetCase, bytes_of

WIDE = (6, 4, -1000000, 1000000)


class CurveCase(SheetCase):
    def assert_curve(self, supply, demand, price, statements, place=(0, 0), market=WIDE):
        answer = curve(*market, *place, price, bytes_of("desk d { " + statements + " }"))
        self.assertEqual(answer, [0, supply, demand], (price, statements))

    def assert_sells(self, amounts, statements):
        """The supply at each price; there's no demand."""
        for price, amount in amounts.items():
            self.assert_curve(amount, 0, price, statements)

    def assert_buys(self, amounts, statements):
        for price, amount in amounts.items():
            self.assert_curve(0, amount, price, statements)


class Examples(CurveCase):
    def test_the_example(self):
        text = bytes_of(EXAMPLE)
        for price, supply in ((9, 0), (10, 0), (11, 10), (15, 50), (19, 90), (20, 100), (100, 100)):
            self.assertEqual(curve(2, 2, 0, 100, 0, 0, price, text), [0, supply, 0])
        for price, supply in ((14, 0), (15, 0), (16, 20), (24, 180), (25, 200)):
            self.assertEqual(curve(2, 2, 0, 100, 0, 1, price, text), [0, supply, 0])
        for quarter in (0, 1):
            for price in (0, 30, 40, 100):
                self.assertEqual(curve(2, 2, 0, 100, 1, quarter, price, text), [0, 0, 0])

    def test_no_orders(self):
        for text in ("", "desk d { }", "const a = 1;"):
            self.assertEqual(curve(2, 2, 0, 100, 0, 0, 15, bytes_of(text)), [0, 0, 0])


class Selling(CurveCase):
    def test_between_two_prices(self):
        self.assert_sells({-1000000: 0, 9: 0, 10: 0, 11: 10, 15: 50, 19: 90, 20: 100, 21: 100, 1000000: 100},
                          "sell zone 0 quarter 0 price 10 to 20 amount 100;")

    def test_one_price(self):
        for statement in ("sell zone 0 quarter 0 price 10 amount 7;", "sell zone 0 quarter 0 price 10 to 10 amount 7;"):
            self.assert_sells({9: 0, 10: 7, 11: 7}, statement)

    def test_rounded_down(self):
        self.assert_sells({10: 0, 11: 3, 12: 6, 13: 10}, "sell zone 0 quarter 0 price 10 to 13 amount 10;")
        self.assert_sells({0: 0, 9999: 0, 10000: 1}, "sell zone 0 quarter 0 price 0 to 10000 amount 1;")
        self.assert_sells({0: 0, 1: 100000, 9999: 999900000, 10000: 10 ** 9},
                          "sell zone 0 quarter 0 price 0 to 10000 amount 1000000000;")

    def test_below_0(self):
        self.assert_sells({-8: 0, -7: 0, -6: 3, -5: 6, -4: 10, -3: 10, 0: 10},
                          "sell zone 0 quarter 0 price -7 to -4 amount 10;")
        self.assert_sells({-2: 0, -1: 0, 0: 3, 1: 6, 2: 10}, "sell zone 0 quarter 0 price -1 to 2 amount 10;")

    def test_each_order_is_rounded_by_itself(self):
        one = "sell zone 0 quarter 0 price 0 to 2 amount 1;"
        self.assert_sells({0: 0, 1: 0, 2: 4}, one * 4)
        self.assert_sells({1: 1 + 2}, "sell zone 0 quarter 0 price 0 to 2 amount 3;"
                                      "sell zone 0 quarter 0 price 0 to 2 amount 5;")


class Buying(CurveCase):
    def test_between_two_prices(self):
        self.assert_buys({-1000000: 100, 9: 100, 10: 100, 11: 90, 15: 50, 19: 10, 20: 0, 21: 0, 1000000: 0},
                         "buy zone 0 quarter 0 price 10 to 20 amount 100;")

    def test_one_price(self):
        for statement in ("buy zone 0 quarter 0 price 10 amount 7;", "buy zone 0 quarter 0 price 10 to 10 amount 7;"):
            self.assert_buys({9: 7, 10: 7, 11: 0}, statement)

    def test_rounded_down(self):
        self.assert_buys({10: 10, 11: 6, 12: 3, 13: 0}, "buy zone 0 quarter 0 price 10 to 13 amount 10;")
        self.assert_buys({0: 1, 1: 0, 10000: 0}, "buy zone 0 quarter 0 price 0 to 10000 amount 1;")
        self.assert_buys({0: 10 ** 9, 1: 999900000, 9999: 100000, 10000: 0},
                         "buy zone 0 quarter 0 price 0 to 10000 amount 1000000000;")

    def test_below_0(self):
        self.assert_buys({-8: 10, -7: 10, -6: 6, -5: 3, -4: 0, -3: 0}, "buy zone 0 quarter 0 price -7 to -4 amount 10;")

    def test_each_order_is_rounded_by_itself(self):
        one = "buy zone 0 quarter 0 price 0 to 2 amount 1;"
        self.assert_buys({0: 4, 1: 0, 2: 0}, one * 4)


class All(CurveCase):
    def test_supply_comes_ahead_of_demand(self):
        self.assert_curve(30, 70, 13, "sell zone 0 quarter 0 price 10 to 20 amount 100;"
                                      "buy zone 0 quarter 0 price 10 to 20 amount 100;")

    def test_many_orders(self):
        self.assert_curve(sum(range(6)) * 10, sum(range(6, 10)) * 7, 5,
                          "for i in 0 .. 9 { sell zone 0 quarter 0 price i amount 10 * i;"
                          " buy zone 0 quarter 0 price i amount if i > 5 then 7 * i else 0; }")
        self.assert_curve(48 * 10 ** 9, 0, 0, "for i in 1 .. 48 { sell zone 0 quarter 0 price 0 amount 1000000000; }")

    def test_only_this_zone_and_quarter(self):
        everywhere = (
            "for z in 0 .. 5 { for q in 0 .. 3 { sell zone z quarter q price 0 amount 10 * z + q + 1;"
            " buy zone z quarter q price 0 amount 100 * z + 10 * q + 1; } }")
        for zone in range(6):
            for quarter in range(4):
                supply, demand = 10 * zone + quarter + 1, 100 * zone + 10 * quarter + 1
                self.assert_curve(supply, demand, 0, everywhere, (zone, quarter))

    def test_orders_of_all_desks(self):
        text = "desk d { sell zone 0 quarter 0 price 0 amount 1; } desk e { sell zone 0 quarter 0 price 0 amount 2; }"
        self.assertEqual(curve(*WIDE, 0, 0, 0, bytes_of(text)), [0, 3, 0])

    def test_blocks_count_in_neither(self):
        steps = "sell zone 0 quarter 0 price 10 amount 5; buy zone 0 quarter 0 price 10 amount 6;"
        blocks = "block sell zone 0 price 10 amount t: 100; block buy zone 0 price 10 amount t: 100;"
        self.assert_curve(5, 6, 10, steps + blocks)
        self.assert_curve(0, 0, 10, blocks)

    def test_a_price_outside_of_the_market(self):
        market = (1, 1, 10, 20)
        both = "sell zone 0 quarter 0 price 10 to 20 amount 5; buy zone 0 quarter 0 price 10 to 20 amount 6;"
        for price in (-1000000, 9):
            self.assert_curve(0, 6, price, both, market=market)
        for price in (21, 1000000):
            self.assert_curve(5, 0, price, both, market=market)
