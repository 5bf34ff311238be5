"""All ten calls together: in any order, on what is as deep and as long as the document lets be."""

import builtins
import importlib
import inspect
import random
import sys
import unittest
from unittest import mock

from ordersheets import sheets
from tests.helper import EXAMPLE, MARKET, REFUSED, bytes_of, folded, form_of
from tests.test_random_sheets import place_of

WIDE = (6, 4, -1000, 1000)

MARKETS_NAMES = ["zones", "quarters", "low", "high"]
PARAMETERS = {
    "check": ["text"],
    "show": ["text"],
    "expand": [*MARKETS_NAMES, "text"],
    "curve": [*MARKETS_NAMES, "zone", "quarter", "price", "text"],
    "fold": ["text"],
    "steps": [*MARKETS_NAMES, "text"],
    "same": [*MARKETS_NAMES, "text", "other"],
    "value": ["text"],
    "desks": [*MARKETS_NAMES, "text"],
    "tokens": ["text"],
}
LEADING = {"curve": (0, 0, 15)}

SHEETS = ("", EXAMPLE, "const a = 1 / 1;", "const a = (1 @", "desk d {", *REFUSED.values())
EXPS = ("1 + 2", "", "sum(i in 1 .. 4: i * i)", "a", "1 / 0", "999999999999999999 * 2", "sum(i in 1 .. 9999: 1)", "1 @")
NO_TEXTS = ([256], [-1], [32] * 3001)
NO_MARKETS = ((0, 2, 0, 100), (2, 5, 0, 100), (2, 2, 1, 0))


def arguments_of(name, text, market=MARKET):
    """The arguments of a call on this text, which is both texts where there are two."""
    told = [*LEADING.get(name, ()), list(text)]
    if "other" in PARAMETERS[name]:
        told.append(list(text))
    return [*market, *told] if "zones" in PARAMETERS[name] else told


def all_calls():
    """Each call with its arguments, accepted ones and refused ones."""
    texts = [bytes_of(text) for text in SHEETS + EXPS] + [list(text) for text in NO_TEXTS]
    made = [(name, arguments_of(name, text)) for name in PARAMETERS for text in texts]
    for name, parameters in PARAMETERS.items():
        if "zones" in parameters:
            made += [(name, arguments_of(name, bytes_of(EXAMPLE), market)) for market in NO_MARKETS]
    made += [("same", [*MARKET, bytes_of(text), bytes_of(other)]) for text in SHEETS for other in SHEETS]
    made += [("curve", [*MARKET, *place, bytes_of(EXAMPLE)]) for place in ((0, 1, 20), (1, 0, 5), (2, 0, 5), (6, 0, 5))]
    return made


def answer_to(made, module=sheets):
    name, arguments = made
    return getattr(module, name)(*arguments)


def answer_alone(made):
    """The answer of a program that has just been read in."""
    kept = {name: module for name, module in sys.modules.items() if name.split(".")[0] == "ordersheets"}
    for name in kept:
        sys.modules.pop(name)
    try:
        return answer_to(made, importlib.import_module("ordersheets.sheets"))
    finally:
        for name in [name for name in sys.modules if name.split(".")[0] == "ordersheets"]:
            sys.modules.pop(name)
        sys.modules.update(kept)


class Interface(unittest.TestCase):
    def test_names_and_arguments(self):
        for name, parameters in PARAMETERS.items():
            self.assertEqual(list(inspect.signature(getattr(sheets, name)).parameters), parameters)

    def test_arguments_by_name(self):
        for name, parameters in PARAMETERS.items():
            arguments = arguments_of(name, bytes_of(EXAMPLE))
            answer = getattr(sheets, name)(**dict(zip(parameters, arguments, strict=True)))
            self.assertEqual(answer, answer_to((name, arguments)))


class EachByItself(unittest.TestCase):
    @classmethod
    def setUpClass(cls):
        cls.made = all_calls()
        cls.answers = [answer_to(made) for made in cls.made]

    def test_all_answers_are_met(self):
        for name, parameters in PARAMETERS.items():
            met = {answer[0] for made, answer in zip(self.made, self.answers) if made[0] == name}
            expected = {0, -1}
            if name not in ("check", "tokens"):
                expected |= {-3}
            if name == "value":
                expected |= {-11, -12, -13}
            if "zones" in parameters:
                expected |= {-11, -12, -13, -14, -15, -16}
            if name == "curve":
                expected |= {-4}
            self.assertEqual(met, expected, name)

    def test_a_call_alone(self):
        for made, answer in zip(self.made[::3], self.answers[::3]):
            self.assertEqual(answer_alone(made), answer, made)

    def test_calls_in_any_order(self):
        places = list(range(len(self.made)))
        for seed in range(3):
            random.Random(seed).shuffle(places)
            for place in places:
                self.assertEqual(answer_to(self.made[place]), self.answers[place], self.made[place])

    def test_a_call_after_each_refused_one(self):
        refused = [made for made, answer in zip(self.made, self.answers) if answer[0] < 0]
        accepted = {name: (name, arguments_of(name, bytes_of(EXAMPLE))) for name in PARAMETERS}
        accepted["value"] = ("value", arguments_of("value", bytes_of("7 - 2 * 3 == 1 && !0")))
        first = {name: answer_to(made) for name, made in accepted.items()}
        self.assertEqual({answer[0] for answer in first.values()}, {0})
        for made in refused[::5]:
            answer_to(made)
            for name in accepted:
                self.assertEqual(answer_to(accepted[name]), first[name], (made, name))

    def test_the_arguments_stay_as_they_were(self):
        for made, again in zip(self.made, all_calls(), strict=True):
            answer_to(made)
            self.assertEqual(made, again)

    def test_nothing_is_printed_read_or_imported(self):
        def refuse(*told, **named):
            raise AssertionError("not to be called")

        names = ("open", "print", "input", "__import__", "exec", "eval", "compile")
        patches = [mock.patch.object(builtins, name, refuse) for name in names]
        patches += [mock.patch.object(sys, name, None) for name in ("stdin", "stdout", "stderr")]
        for patch in patches:
            patch.start()
        try:
            answers = [answer_to(made) for made in self.made]
        finally:
            for patch in patches:
                patch.stop()
        self.assertEqual(answers, self.answers)


# What opens a level, with every strength of chain within it; each is worth 1 if what's within is.
LEVELS = (("(0||1&&1==0+1*", ")"), ("abs(0||1&&1==0+1*", ")"), ("min(1,0||1&&1==0+1*", ")"), ("-(0-", ")"),
          ("sum({} in 1..1:0||1&&1==0+1*", ")"), ("(if 0||1&&1==0+1*", " then 1 else 0)"), ("!!", ""), ("!(0==", ")"))

SELL = "sell zone 1 quarter 1 price 1 amount {};"

# Sheets with each place where an exp may stand.
PLACES = (
    "const a = @; desk d { sell zone a quarter a price a amount a; }",
    "fun f() = @; desk d { sell zone 0 quarter 0 price 0 amount f(); }",
    "desk d { let a = @; buy zone a quarter a price a amount a; }",
    "desk d { for i in @ .. 2 { sell zone 0 quarter 0 price i amount i; } }",
    "desk d { for i in 0 .. @ { sell zone 0 quarter 0 price i amount i; } }",
    "desk d { if @ { sell zone 0 quarter 0 price 0 amount 1; } else { let b = 1 / 0; } }",
    "desk d { sell zone @ quarter 0 price 0 to 2 amount 3; }",
    "desk d { sell zone 0 quarter @ price 0 to 2 amount 3; }",
    "desk d { sell zone 0 quarter 0 price @ to 2 amount 3; }",
    "desk d { sell zone 0 quarter 0 price 0 to @ amount 3; }",
    "desk d { sell zone 0 quarter 0 price 0 to 2 amount @; }",
    "desk d { block sell zone @ price 0 amount t: t group 2; }",
    "desk d { block sell zone 0 price @ amount t: t group 2; }",
    "desk d { block sell zone 0 price 0 amount t: @ group 2; }",
    "desk d { block sell zone 0 price 0 amount t: t group @; }",
)


def levels_of(begin):
    """How many levels this opens."""
    return begin.count("(") + begin.count("!") + begin.count("-(") + begin.count("if ")


def deep_exp(begin, end, levels, inner="1"):
    """An exp that has so many levels open, and is worth 1 if what's within is."""
    count = levels // levels_of(begin)
    rest = levels % levels_of(begin)
    opened = "".join(begin.format(f"i{number}") for number in range(count))
    return "(" * rest + opened + inner + end * count + ")" * rest


class Greatest(unittest.TestCase):
    """Sheets at the greatest depths and counts, and one beyond."""

    def assert_answers(self, text, expected, market=WIDE):
        """What the calls of a market answer to a sheet without fault; the others are held to what they promise."""
        text = text + " " * (3000 - len(text))
        handed = bytes_of(text)
        self.assertEqual(len(handed), 3000)
        self.assertEqual(sheets.check(handed), [0, 0, 0, 0], text)
        for shown in (form_of(text), folded(text)):
            if len(shown) <= 3000:
                self.assertEqual(form_of(shown), shown)
        for name, answer in expected.items():
            self.assertEqual(answer_to((name, arguments_of(name, handed, market))), answer, (name, text))
        self.assertEqual(sheets.tokens(handed)[-3:], [3, *place_of(text, len(text))])
        self.assertEqual(sheets.value(handed), [-3])

    def assert_too_deep(self, text):
        handed = bytes_of(text)
        self.assertEqual(sheets.check(handed)[1], 6, text)
        for name in PARAMETERS:
            if name not in ("check", "value", "tokens"):
                self.assertEqual(answer_to((name, arguments_of(name, handed))), [-3], (name, text))

    def desk(self, amount):
        """A desk with one order of this amount."""
        return f"desk d {{ {SELL.format(amount)} }}"

    def one_order(self, amount=1):
        """What is answered to a sheet with such a desk alone."""
        return {"expand": [0, 1, 8, 0, 0, 1, 1, 0, 1, 1, amount], "desks": [0, 1, 1, 0, amount, 0], "same": [0, 1]}

    def test_12_levels_in_each_exp_of_a_sheet(self):
        for place in PLACES:
            plain = bytes_of(place.replace("@", "1"))
            names = ("expand", "curve", "desks")
            expected = {name: answer_to((name, arguments_of(name, plain, WIDE))) for name in names}
            self.assertGreater(expected["expand"][1], 0)
            for begin, end in LEVELS:
                self.assert_answers(place.replace("@", deep_exp(begin, end, 12)), expected)
                self.assert_too_deep(place.replace("@", deep_exp(begin, end, 13)))

    def test_12_levels_in_an_exp_alone(self):
        for begin, end in LEVELS:
            self.assertEqual(sheets.value(bytes_of(deep_exp(begin, end, 12))), [0, 1], begin)
            self.assertEqual(sheets.value(bytes_of(deep_exp(begin, end, 13))), [-3], begin)

    def test_6_pairs_of_braces(self):
        begin = {"for": "for i{} in 1 .. 1 {{", "if": "if 1 {{", "else": "if 0 {{ }} else {{"}
        sell = SELL.format(deep_exp("(", ")", 12))
        for kinds in (["for"] * 6, ["if"] * 6, ["else"] * 6, ["for", "if", "else"] * 2, ["else", "if", "for"] * 2):
            opened = "".join(begin[kind].format(number) for number, kind in enumerate(kinds))
            self.assert_answers("desk d {" + opened + sell + "}" * 7, self.one_order())
            for kind in begin:
                self.assert_too_deep("desk d {" + opened + begin[kind].format(6) + sell + "}" * 8)

    def test_6_functions_that_call_one_another_at_every_level(self):
        # Each works out the one before it three times at three levels: 3 + 9 + ... calls in all.
        given = "fun f0(a) = a + 1; "
        for number in range(1, 6):
            call = f"f{number - 1}("
            given += f"fun f{number}(a) = {call * 3}a{')' * 3}; "
        self.assert_answers(given + self.desk("f5(0)"), self.one_order(3 ** 5))
        self.assertEqual(sheets.check(bytes_of(given + "fun f6() = 1;"))[1], 7)

    def test_6_functions_with_12_levels_each(self):
        given = "fun f0(a) = a; "
        for number in range(1, 6):
            call = f"f{number - 1}("
            given += f"fun f{number}(a) = {call * 12}a{')' * 12}; "
        # The last ones would take far more than 10000 steps.
        refused = {name: [-13] for name in ("expand", "curve", "steps", "desks", "same")}
        self.assert_answers(given + self.desk("f5(" * 12 + "1" + ")" * 12), refused)
        self.assert_answers(given + self.desk("f2(" * 12 + "1" + ")" * 12), self.one_order())
        self.assert_too_deep(given + self.desk("f2(" * 13 + "1" + ")" * 13))

    def test_6_functions_of_6_parameters(self):
        given = "".join(f"fun f{number}(a, b, c, d, e, g) = {call}; " for number, call in enumerate(
            ["a + b + c + d + e + g"] + [f"f{number}(b, c, d, e, g, a)" for number in range(5)]))
        self.assert_answers(given + self.desk("f5(1, 2, 3, 4, 5, 6)"), self.one_order(21))
        self.assertEqual(sheets.check(bytes_of(given.replace("e, g)", "e, g, h)", 1)))[1], 7)

    def test_functions_deeper_than_pythons_calls(self):
        begin, end = LEVELS[0]
        given = f"fun f0(x) = {deep_exp(begin, end, 12, 'x')}; "
        for number in range(1, 6):
            given += f"fun f{number}(x) = {deep_exp(begin, end, 11, f'f{number - 1}(x)')}; "
        self.assert_answers(given + self.desk(deep_exp(begin, end, 11, "f5(1)")), self.one_order())

    def test_all_of_it_with_a_few_hundred_calls_within_one_another(self):
        depth = len(inspect.stack())
        kept = sys.getrecursionlimit()
        sys.setrecursionlimit(depth + 400)
        try:
            self.test_functions_deeper_than_pythons_calls()
            self.test_6_functions_with_12_levels_each()
            self.test_12_levels_in_each_exp_of_a_sheet()
            self.test_6_pairs_of_braces()
            self.test_long_sheets()
        finally:
            sys.setrecursionlimit(kept)

    def test_long_sheets(self):
        for text, desks in (
                ("desk d{" + "if 1{}" * 498 + "}", 1),
                ("desk d{let a=1;" + "".join(f"let x{number}=a;" for number in range(230)) + "}", 1),
                ("".join(f"desk d{number}{{}}" for number in range(270)), 270),
                ("".join(f"const c{number}=1;" for number in range(200)), 0),
                ("const a=" + "+".join(["1"] * 1495) + ";", 0),
                ("const a=" + "&&".join(["1"] * 995) + ";", 0),
                ("const a=" + "-".join(["(1)"] * 740) + ";", 0),
                ("#" * 2999 + "\n", 0)):
            self.assert_answers(text, {"expand": [0, 0], "curve": [0, 0, 0], "same": [0, 1],
                                       "desks": [0, desks] + [0] * 4 * desks})

    def test_48_orders_of_4_quarters(self):
        text = "desk d { for i in 1 .. 48 { block b sell zone 5 price 1000 amount t: 1000000000 group 9; } }"
        row = [11, 1, 0, 5, 0, 1000, 9, -1] + [10 ** 9] * 4
        self.assert_answers(text, {"expand": [0, 48] + row * 48, "desks": [0, 1, 0, 48, 192 * 10 ** 9, 0]})
