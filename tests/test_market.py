"""The calls with a market: what of it is refused (-1), and the order of all refusals."""

import unittest

from ordersheets.sheets import curve, desks, expand, same, steps
from tests.helper import MARKET, REFUSED, bytes_of

SOUND = bytes_of("desk d { let a = 1; }")
FAULTY = bytes_of("desk d {")

SELL = "sell zone 0 quarter 0 price 0 amount 1;"

MILLION = 1000000
FAR = 10 ** 18


def curve_at_0(zones, quarters, low, high, text):
    return curve(zones, quarters, low, high, 0, 0, 0, text)


def same_first(zones, quarters, low, high, text):
    return same(zones, quarters, low, high, text, SOUND)


def same_second(zones, quarters, low, high, text):
    return same(zones, quarters, low, high, SOUND, text)


# All calls of a market and a text.
CALLS = (expand, curve_at_0, steps, same_first, same_second, desks)


class Markets(unittest.TestCase):
    def assert_taken(self, *market):
        for call in CALLS:
            self.assertEqual(call(*market, SOUND)[0], 0, (call.__name__, market))

    def assert_refused(self, *market):
        for call in CALLS:
            for text in (SOUND, FAULTY, bytes_of(REFUSED[-11]), [256]):
                self.assertEqual(call(*market, text), [-1], (call.__name__, market))

    def test_zones(self):
        for zones in range(1, 7):
            self.assert_taken(zones, 2, 0, 100)
        for zones in (0, 7, -1, -FAR, FAR):
            self.assert_refused(zones, 2, 0, 100)

    def test_quarters(self):
        for quarters in range(1, 5):
            self.assert_taken(2, quarters, 0, 100)
        for quarters in (0, 5, -1, -FAR, FAR):
            self.assert_refused(2, quarters, 0, 100)

    def test_the_lowest_price(self):
        for low in (-MILLION, -1, 0, 1, MILLION):
            self.assert_taken(2, 2, low, MILLION)
        for low in (-MILLION - 1, MILLION + 1, -FAR, FAR):
            self.assert_refused(2, 2, low, MILLION)
            self.assert_refused(2, 2, low, low)

    def test_the_highest_price(self):
        for high in (-MILLION, -1, 0, 1, MILLION):
            self.assert_taken(2, 2, -MILLION, high)
        for high in (-MILLION - 1, MILLION + 1, -FAR, FAR):
            self.assert_refused(2, 2, -MILLION, high)
            self.assert_refused(2, 2, high, high)

    def test_the_highest_price_is_not_below_the_lowest(self):
        for price in (-MILLION, -1, 0, 7, MILLION):
            self.assert_taken(2, 2, price, price)
        for low, high in ((1, 0), (0, -1), (MILLION, MILLION - 1), (-MILLION + 1, -MILLION), (MILLION, -MILLION)):
            self.assert_refused(2, 2, low, high)


class Texts(unittest.TestCase):
    def test_texts_that_are_refused(self):
        for text in ([32] * 3001, [32] * 4000, SOUND + [256], [-1] + SOUND, [FAR], [-FAR], FAULTY + [256]):
            for call in CALLS:
                self.assertEqual(call(*MARKET, text), [-1])

    def test_the_longest_text(self):
        text = bytes_of("desk d { " + SELL + " }")
        text += [32] * (3000 - len(text))
        self.assertEqual(expand(*MARKET, text), [0, 1, 8, 0, 0, 0, 0, 0, 0, 0, 1])
        self.assertEqual(curve_at_0(*MARKET, text), [0, 1, 0])
        self.assertEqual(steps(*MARKET, text), [0, 5])
        self.assertEqual(desks(*MARKET, text), [0, 1, 1, 0, 1, 0])
        for call in CALLS:
            self.assertEqual(call(*MARKET, text + [32]), [-1])


class Order(unittest.TestCase):
    def test_each_refusal_of_an_expansion(self):
        for number, text in REFUSED.items():
            for call in CALLS:
                self.assertEqual(call(*MARKET, bytes_of(text)), [number])

    def test_a_fault_comes_ahead_of_these(self):
        for text in REFUSED.values():
            for fault in (" @", " const", " const min = 1;", " const z = y;", " desk d {"):
                for call in CALLS:
                    self.assertEqual(call(*MARKET, bytes_of(text + fault)), [-3])

    def test_each_fault_is_refused(self):
        six = "".join(f"fun f{number}() = 1; " for number in range(6))
        for faulty in ("@", ";", "const a = b;", "const a = 1; const a = 2;", "const a = abs();",
                       "const a = " + "(" * 13 + "1" + ")" * 13 + ";", six + "fun f6() = 1;"):
            for call in CALLS:
                self.assertEqual(call(*MARKET, bytes_of(faulty)), [-3])


class CurvesPlace(unittest.TestCase):
    def assert_curve(self, number, zone, quarter, price, text=SOUND, market=MARKET):
        self.assertEqual(curve(*market, zone, quarter, price, text)[0], number, (zone, quarter, price))

    def test_zone(self):
        widest = (6, 4, 0, 100)
        for zone in range(6):
            self.assert_curve(0, zone, 0, 0, market=widest)
        for zone in (-1, 6, -FAR, FAR):
            for market in (widest, MARKET):
                self.assert_curve(-1, zone, 0, 0, market=market)

    def test_quarter(self):
        widest = (6, 4, 0, 100)
        for quarter in range(4):
            self.assert_curve(0, 0, quarter, 0, market=widest)
        for quarter in (-1, 4, -FAR, FAR):
            for market in (widest, MARKET):
                self.assert_curve(-1, 0, quarter, 0, market=market)

    def test_price(self):
        for price in (-MILLION, -1, 0, 1, 101, MILLION):
            self.assert_curve(0, 0, 0, price)
        for price in (-MILLION - 1, MILLION + 1, -FAR, FAR):
            self.assert_curve(-1, 0, 0, price)

    def test_no_such_zone_in_the_market(self):
        for zones in range(1, 7):
            for zone in range(6):
                self.assert_curve(0 if zone < zones else -4, zone, 0, 0, market=(zones, 1, 0, 0))

    def test_no_such_quarter_in_the_market(self):
        for quarters in range(1, 5):
            for quarter in range(4):
                self.assert_curve(0 if quarter < quarters else -4, 0, quarter, 0, market=(1, quarters, 0, 0))

    def test_the_range_comes_ahead_of_the_market(self):
        for zone, quarter in ((2, 0), (0, 2), (5, 3)):
            self.assert_curve(-4, zone, quarter, 0)
            self.assert_curve(-1, zone, quarter, MILLION + 1)
            self.assert_curve(-1, zone, quarter, 0, [256])
            self.assert_curve(-1, zone, quarter, 0, [32] * 3001)
            self.assert_curve(-1, zone, quarter, 0, market=(2, 2, 1, 0))
        self.assert_curve(-1, 6, 2, 0)
        self.assert_curve(-1, 2, 4, 0)

    def test_the_market_comes_ahead_of_the_text(self):
        for zone, quarter in ((2, 0), (0, 2), (5, 3)):
            self.assert_curve(-4, zone, quarter, 0, FAULTY)
            for text in REFUSED.values():
                self.assert_curve(-4, zone, quarter, 0, bytes_of(text))
                self.assert_curve(-4, zone, quarter, 0, bytes_of(text + " @"))
