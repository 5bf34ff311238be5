"""Calls on many sheets that are put together by the grammar, against a second way to expand them."""

import functools
import unittest

from ordersheets.sheets import curve, desks, expand, same, steps
from tests.helper import bytes_of, folded, form_of
from tests.test_random_sheets import TOKEN, Maker, made_sheets

SHEETS = 1000

COMPARED = {
    "==": lambda a, b: a == b, "!=": lambda a, b: a != b, "<=": lambda a, b: a <= b, ">=": lambda a, b: a >= b,
    "<": lambda a, b: a < b, ">": lambda a, b: a > b,
}
CHAINS = (("||",), ("&&",), tuple(COMPARED), ("+", "-"), ("*", "/", "%"))


class Refused(Exception):
    pass


class Second:
    """Turns a sheet without fault, token by token, into Python's own functions of a dict of all names known."""

    def __init__(self, market, text):
        self.zones, self.quarters, self.low, self.high = market
        self.tokens = TOKEN.findall(text) + [""]
        self.left = 10000
        self.orders = []
        self.desk = -1
        self.named = {}
        self.functions = {"min": (("a", "b"), lambda names: min(names["a"], names["b"])),
                          "max": (("a", "b"), lambda names: max(names["a"], names["b"])),
                          "abs": (("a",), lambda names: abs(names["a"]))}

    def take(self, token=None):
        taken = self.tokens.pop(0)
        assert token in (None, taken), (token, taken)
        return taken

    def skip(self, token):
        return self.tokens[0] == token and bool(self.take())

    def step(self):
        if self.left == 0:
            raise Refused(-13)
        self.left -= 1

    def stepping(self, work):
        def stepped(names):
            self.step()
            return work(names)
        return stepped

    def expand(self):
        names = {}
        while self.tokens[0]:
            top, name = self.take(), self.take()
            if top == "const":
                names = {**names, name: self.stepping(self.given())(names)}
            elif top == "fun":
                self.fun(name, names)
            else:
                self.desk += 1
                self.named = {}
                self.braces()(names)
        return self.orders

    def given(self):
        self.take("=")
        work = self.exp()
        self.take(";")
        return work

    def fun(self, name, consts):
        self.take("(")
        parameters = []
        while not self.skip(")"):
            parameters.append(self.take())
            self.skip(",")
        work = self.given()
        self.functions[name] = (parameters, lambda names: work({**consts, **names}))

    def braces(self):
        self.take("{")
        statements = []
        while not self.skip("}"):
            statements.append(self.statement())

        def do(names):
            for statement in statements:
                self.step()
                names = {**names, **(statement(names) or {})}
        return do

    def statement(self):
        word = self.take()
        if word == "let":
            name, work = self.take(), self.given()
            return lambda names: {name: work(names)}
        if word == "for":
            return self.loop()
        if word == "if":
            return self.condition()
        if word == "block":
            return self.block()
        return self.order(word)

    def loop(self):
        name, first, last = self.bounds()
        body = self.braces()

        def do(names):
            begin, end = first(names), last(names)
            while begin <= end:
                self.step()
                body({**names, name: begin})
                begin += 1
        return do

    def bounds(self):
        name = self.take()
        self.take("in")
        first = self.exp()
        self.take("..")
        return name, first, self.exp()

    def condition(self):
        work, chosen, otherwise = self.exp(), self.braces(), None
        if self.skip("else"):
            otherwise = self.braces()

        def do(names):
            if work(names):
                chosen(names)
            elif otherwise:
                otherwise(names)
        return do

    def part(self, word):
        return self.exp() if self.skip(word) else None

    def order(self, side):
        parts = [self.part(word) for word in ("zone", "quarter", "price", "to", "amount")]
        self.take(";")

        def do(names):
            zone, quarter, low, high, amount = [part and part(names) for part in parts]
            high = low if high is None else high
            if not (zone in range(self.zones) and quarter in range(self.quarters) and 0 <= amount <= 10 ** 9
                    and self.low <= low <= high <= self.high and high - low <= 10000):
                raise Refused(-14)
            if amount:
                self.add((0, self.desk, zone, quarter, int(side == "buy"), low, high, amount))
        return do

    def add(self, order):
        if len(self.orders) == 48:
            raise Refused(-15)
        self.orders.append(order)

    def block(self):
        name = self.take() if self.tokens[0] not in ("sell", "buy") else None
        side, zone_of, price_of = self.take(), self.part("zone"), self.part("price")
        self.take("amount")
        quarter = self.take()
        self.take(":")
        amount_of = self.exp()
        under = self.take() if self.skip("under") else None
        group_of = self.part("group")
        self.take(";")

        def do(names):
            zone, price = zone_of(names), price_of(names)
            amounts = tuple([amount_of({**names, quarter: number}) for number in range(self.quarters)])
            group = group_of(names) if group_of else 0
            if not (zone in range(self.zones) and self.low <= price <= self.high and group in range(10)
                    and min(amounts) >= 0 and max(amounts) <= 10 ** 9):
                raise Refused(-14)
            if any(amounts):
                if under and under not in self.named:
                    raise Refused(-16)
                parent = self.named[under] if under else -1
                self.add((1, self.desk, zone, int(side == "buy"), price, group, parent) + amounts)
                self.named[name] = len(self.orders) - 1
        return do

    def exp(self):
        if not self.skip("if"):
            return self.chain(0)
        condition = self.exp()
        self.take("then")
        chosen = self.exp()
        self.take("else")
        otherwise = self.exp()
        return self.stepping(lambda names: chosen(names) if condition(names) else otherwise(names))

    def chain(self, strength):
        if strength == 5:
            return self.unary()
        works, signs = [self.chain(strength + 1)], []
        while self.tokens[0] in CHAINS[strength]:
            signs.append(self.take())
            works.append(self.chain(strength + 1))
        if not signs:
            return works[0]
        if strength == 0:
            return self.stepping(lambda names: int(any(work(names) for work in works)))
        if strength == 1:
            return self.stepping(lambda names: int(all(work(names) for work in works)))
        return self.stepping(lambda names: self.reckon(works, signs, names))

    def reckon(self, works, signs, names):
        value = works[0](names)
        for sign, work in zip(signs, works[1:]):
            other = work(names)
            if sign in COMPARED:
                value = int(COMPARED[sign](value, other))
            elif sign in "+-*":
                value = {"+": value + other, "-": value - other, "*": value * other}[sign]
            elif other == 0:
                raise Refused(-11)
            else:
                value = divmod(value, other)[sign == "%"]
            self.bound(value)
        return value

    def bound(self, value):
        if not -10 ** 18 <= value <= 10 ** 18:
            raise Refused(-12)

    def unary(self):
        if self.tokens[0] not in ("-", "!"):
            return self.primary()
        sign, work = self.take(), self.unary()
        return self.stepping(lambda names: -work(names) if sign == "-" else int(work(names) == 0))

    def primary(self):
        token = self.take()
        if token.isdigit():
            return self.stepping(lambda names: int(token))
        if token == "(":
            work = self.exp()
            self.take(")")
            return work
        if token == "sum":
            return self.sum()
        if token in self.functions:
            return self.call(token)
        return self.stepping(lambda names: names[token])

    def sum(self):
        self.take("(")
        name, first, last = self.bounds()
        self.take(":")
        body = self.exp()
        self.take(")")

        def work(names):
            begin, end, total = first(names), last(names), 0
            while begin <= end:
                self.step()
                total += body({**names, name: begin})
                self.bound(total)
                begin += 1
            return total
        return self.stepping(work)

    def call(self, name):
        parameters, work = self.functions[name]
        self.take("(")
        arguments = []
        while not self.skip(")"):
            arguments.append(self.exp())
            self.skip(",")
        return self.stepping(lambda names: work(dict(zip(parameters, [argument(names) for argument in arguments]))))


class Trader(Maker):
    """Makes sheets whose numbers are small and whose orders are often in range."""

    def number(self):
        return self.random.choice(["0", "1", "1", "2", "2", "3", "5", "07", "10"] + ["9" * 18] * (self.names % 13 == 0))

    def sign(self, strength):
        """A divisor is 0 too often for many of them."""
        return "*" if strength == 4 and self.random.randrange(4) else super().sign(strength)

    def loop(self, depth):
        name = self.name()
        made = ["for", name, "in", *self.within(3, 1), "..", "3", "+", *self.within(8, 1)]
        self.values.append(name)
        made += self.braces(depth + 1)
        self.values.remove(name)
        return made

    def within(self, most, depth):
        if self.random.randrange(40) == 0:
            return ["(", *self.exp(depth), ")"]
        return ["abs", "(", *self.exp(depth), ")", "%", str(most)]

    def step(self):
        made = [self.side(), "zone", *self.within(2, 1), "quarter", *self.within(2, 1), "price", *self.within(30, 1)]
        if self.random.randrange(2):
            made += ["to", "30", "+", *self.within(30, 1)]
        return made + ["amount", *self.within(99, 2), ";"]

    def block(self):
        named = [self.name()] if self.random.randrange(2) else []
        made = ["block", *named, self.side(), "zone", *self.within(2, 1), "price", *self.within(30, 1)]
        name = self.name()
        self.values.append(name)
        made += ["amount", name, ":", *self.within(7, 2)]
        self.values.remove(name)
        if self.blocks and self.random.randrange(3) == 0:
            made += ["under", self.random.choice(self.blocks)]
        if self.random.randrange(2):
            made += ["group", *self.within(9, 1)]
        self.blocks += named
        return made + [";"]


@functools.cache
def traded_sheets(count):
    """So many sheets as texts, each with at least one desk."""
    found = []
    seed = 0
    while len(found) < count:
        text = " ".join(Trader(seed).sheet())
        if len(text) <= 2000 and "desk" in text:
            found.append(text)
        seed += 1
    return found


def second_answer(market, text):
    """What expand must answer, and how many steps it takes."""
    second = Second(market, text)
    try:
        orders = second.expand()
    except Refused as refused:
        return [refused.args[0]], None
    rows = [[len(order), *order] for order in orders]
    return sum(rows, [0, len(rows)]), 10000 - second.left


def second_curve(rows, zone, quarter, price):
    supply = demand = 0
    for row in rows:
        if row[0] == 0 and row[2:4] == (zone, quarter):
            low, high, amount = row[5:]
            share = min(max(price - low, 0), high - low)
            if row[4] == 0 and price >= low:
                supply += amount * share // (high - low) if high > low else amount
            if row[4] == 1 and price <= high:
                demand += amount * (high - low - share) // (high - low) if high > low else amount
    return [0, supply, demand]


def second_desks(market, text):
    second = Second(market, text)
    rows = second.expand()
    told = [0, second.desk + 1]
    for desk in range(second.desk + 1):
        steps_there = [row for row in rows if row[:2] == (0, desk)]
        blocks_there = [row for row in rows if row[:2] == (1, desk)]
        told += [len(steps_there), len(blocks_there)]
        for side in (0, 1):
            told.append(sum(row[7] for row in steps_there if row[4] == side)
                        + sum(sum(row[7:]) for row in blocks_there if row[3] == side))
    return told


class RandomSheets(unittest.TestCase):
    def test_expand_and_steps(self):
        met = {}
        for text in traded_sheets(SHEETS):
            for market in ((2, 2, 0, 100), (3, 4, -10, 50)):
                answer, count = second_answer(market, text)
                self.assertEqual(expand(*market, bytes_of(text)), answer, text)
                self.assertEqual(steps(*market, bytes_of(text)), answer if count is None else [0, count], text)
                kind = min(answer[0], 0) or min(answer[1], 1)
                met[kind] = met.get(kind, 0) + 1
        # All kinds of answers are met, -16 among them.
        self.assertEqual(sorted(met), [-16, -15, -14, -13, -12, -11, 0, 1], met)
        self.assertGreater(met[1], SHEETS // 4, met)

    def test_curve(self):
        market = (2, 2, 0, 100)
        counted = 0
        for text in traded_sheets(SHEETS):
            answer, _ = second_answer(market, text)
            if answer[0] == 0 and answer[1] > 1:
                rows = Second(market, text).expand()
                for place in ((0, 0), (0, 1), (1, 0), (1, 1)):
                    for price in (0, 7, 20, 29, 30, 31, 45, 60):
                        answer = curve(*market, *place, price, bytes_of(text))
                        self.assertEqual(answer, second_curve(rows, *place, price), text)
                        counted += 1
                if counted > 1500:
                    return
        self.fail("too few orders")

    def test_desks(self):
        market = (3, 4, -10, 50)
        traded = 0
        for text in traded_sheets(SHEETS)[::2]:
            answer, count = second_answer(market, text)
            if count is not None:
                answer = second_desks(market, text)
                traded += answer[1] > 1 and sum(answer[2:]) > 0
            self.assertEqual(desks(*market, bytes_of(text)), answer, text)
        self.assertGreater(traded, 30)

    def test_same(self):
        market = (2, 2, 0, 100)
        met = {}
        texts = [text for text in traded_sheets(SHEETS) if len(text) < 600][:300]
        answers = [second_answer(market, text)[0] for text in texts]
        for at, text in enumerate(texts):
            for other in (at - 1, at, (at * 7 + 3) % len(texts)):
                if answers[at][0] < 0 or answers[other][0] < 0:
                    expected = answers[at][:1] if answers[at][0] < 0 else answers[other][:1]
                else:
                    expected = [0, int(answers[at] == answers[other])]
                answer = same(*market, bytes_of(text), bytes_of(texts[other]))
                self.assertEqual(answer, expected, (text, texts[other]))
                met[tuple(answer)] = met.get(tuple(answer), 0) + 1
        self.assertGreater(met[0, 0], 50, met)
        self.assertGreater(met[0, 1], 50, met)

    def test_a_sheet_made_simpler_means_the_same(self):
        market = (2, 2, 0, 100)
        changed = 0
        for text in traded_sheets(SHEETS):
            simpler = folded(text)
            self.assertEqual(folded(simpler), simpler)
            self.assertEqual(form_of(simpler), simpler)
            answer, count = second_answer(market, text)
            # Fewer steps may be enough where they weren't before.
            if answer != [-13]:
                self.assertEqual(expand(*market, bytes_of(simpler)), answer, text)
            if count is not None:
                self.assertLessEqual(steps(*market, bytes_of(simpler))[1], count, text)
            changed += simpler != form_of(text)
        self.assertGreater(changed, SHEETS // 2)

    def test_nothing_is_left_to_be_made_simpler(self):
        for tokens in made_sheets(400):
            simpler = folded(" ".join(tokens))
            if len(simpler) <= 3000:
                self.assertEqual(folded(simpler), simpler)
                self.assertEqual(form_of(simpler), simpler)
