"""check and show on many sheets that are put together by the grammar, always the same ones."""

import functools
import random
import re
import unittest

from ordersheets.sheets import check, show
from tests.helper import bytes_of, form_of

TOKEN = re.compile(r"[A-Za-z_][A-Za-z_0-9]*|[0-9]+|==|!=|<=|>=|&&|\|\||\.\.|[-+*/%(){},;:=<>!]")
SIGNS = (["||"], ["&&"], ["==", "!=", "<=", ">=", "<", ">"], ["+", "-"], ["*", "/", "%"])
STARTS = (["const", "a", "="], ["fun", "f", "("], ["desk", "d", "{"], ["desk", "d", "{", "if"], [])


class Maker:
    """Makes the tokens of a sheet without fault."""

    def __init__(self, seed):
        self.random = random.Random(seed)
        self.values = []
        self.functions = [("min", 2), ("max", 2), ("abs", 1)]
        self.blocks = []
        self.names = 0

    def name(self):
        self.names += 1
        return f"n{self.names}"

    def number(self):
        return self.random.choice(["0", "00", "7", "012", "9" * 18])

    def sheet(self):
        tops = []
        for _ in range(self.random.randrange(1, 5)):
            make = self.random.choice([self.const, self.fun, self.desk])
            tops += make()
        return tops

    def const(self):
        name = self.name()
        made = ["const", name, "=", *self.exp(3), ";"]
        self.values.append(name)
        return made

    def fun(self):
        name = self.name()
        parameters = [self.name() for _ in range(self.random.randrange(4))]
        kept = list(self.values)
        self.values += parameters
        made = ["fun", name, "(", *",".join(parameters).replace(",", " , ").split(), ")", "=", *self.exp(3), ";"]
        self.values = kept
        self.functions.append((name, len(parameters)))
        return made

    def desk(self):
        self.blocks = []
        return ["desk", self.name(), *self.braces(0)]

    def braces(self, depth):
        kept = list(self.values)
        made = ["{"]
        for _ in range(self.random.randrange(4)):
            made += self.statement(depth)
        self.values = kept
        return made + ["}"]

    def statement(self, depth):
        kinds = [self.let, self.step, self.block]
        if depth < 3:
            kinds += [lambda: self.loop(depth), lambda: self.condition(depth)]
        return self.random.choice(kinds)()

    def let(self):
        name = self.name()
        made = ["let", name, "=", *self.exp(2), ";"]
        self.values.append(name)
        return made

    def loop(self, depth):
        name = self.name()
        made = ["for", name, "in", *self.exp(2), "..", *self.exp(2)]
        self.values.append(name)
        made += self.braces(depth + 1)
        self.values.remove(name)
        return made

    def condition(self, depth):
        made = ["if", *self.exp(2), *self.braces(depth + 1)]
        if self.random.randrange(2):
            made += ["else", *self.braces(depth + 1)]
        return made

    def side(self):
        return self.random.choice(["sell", "buy"])

    def step(self):
        made = [self.side(), "zone", *self.exp(1), "quarter", *self.exp(1), "price", *self.exp(1)]
        if self.random.randrange(2):
            made += ["to", *self.exp(1)]
        return made + ["amount", *self.exp(2), ";"]

    def block(self):
        named = [self.name()] if self.random.randrange(2) else []
        made = ["block", *named, self.side(), "zone", *self.exp(1), "price", *self.exp(1)]
        name = self.name()
        made += ["amount", name, ":"]
        self.values.append(name)
        made += self.exp(2)
        self.values.remove(name)
        if self.blocks and self.random.randrange(2):
            made += ["under", self.random.choice(self.blocks)]
        if self.random.randrange(2):
            made += ["group", *self.exp(1)]
        self.blocks += named
        return made + [";"]

    def exp(self, depth):
        if depth > 0 and self.random.randrange(8) == 0:
            return ["if", *self.exp(depth - 1), "then", *self.exp(depth - 1), "else", *self.exp(depth - 1)]
        return self.chain(depth, 0)

    def chain(self, depth, strength):
        if strength == 5:
            return self.unary(depth)
        made = self.chain(depth, strength + 1)
        more = self.random.choice([0, 0, 0, 0, 0, 1, 2]) if depth > 0 else 0
        for _ in range(min(more, 1) if strength == 2 else more):
            made += [self.sign(strength), *self.chain(depth - 1, strength + 1)]
        return made

    def sign(self, strength):
        return self.random.choice(SIGNS[strength])

    def unary(self, depth):
        if self.random.randrange(6) == 0:
            return [self.random.choice("-!"), *self.unary(depth - 1)]
        return self.primary(depth)

    def primary(self, depth):
        kind = self.random.randrange(6)
        if depth > 0 and kind == 0:
            return self.call(depth)
        if depth > 0 and kind == 1:
            return self.sum(depth)
        if depth > 0 and kind in (2, 3):
            return ["(", *self.exp(depth - 1), ")"]
        if self.values and kind == 4:
            return [self.random.choice(self.values)]
        return [self.number()]

    def call(self, depth):
        name, count = self.random.choice(self.functions)
        made = [name, "("]
        for number in range(count):
            made += [","] * (number > 0) + self.exp(depth - 1)
        return made + [")"]

    def sum(self, depth):
        name = self.name()
        made = ["sum", "(", name, "in", *self.exp(depth - 1), "..", *self.exp(depth - 1), ":"]
        self.values.append(name)
        made += self.exp(depth - 1)
        self.values.remove(name)
        return made + [")"]


@functools.cache
def made_sheets(count):
    """So many sheets as lists of tokens, each short enough for a text."""
    found = []
    seed = 0
    while len(found) < count:
        tokens = Maker(seed).sheet()
        if len(" ".join(tokens)) < 1400:
            found.append(tokens)
        seed += 1
    return found


def spread(tokens, seed):
    """The tokens with blanks and comments between them."""
    chooser = random.Random(seed)
    return "".join(token + chooser.choice([" ", " ", " ", "\n", "\t", "\r\n", " # x @ \n"]) for token in tokens)


def without_brackets(tokens):
    """What show must keep of a sheet: all but brackets, zeros in front and an else without statements."""
    plain = " ".join(str(int(token)) if token[0].isdigit() else token for token in tokens)
    plain = plain.replace("else { } ", "").replace("else { }", "")
    return plain.replace("(", " ").replace(")", " ").split()


def grouping_pairs(form):
    """The places of the brackets that stand around an exp, by pairs."""
    open_ones = []
    for at, letter in enumerate(form):
        if letter == "(":
            open_ones.append(at)
        elif letter == ")":
            begin = open_ones.pop()
            if not re.match("[A-Za-z0-9_]", form[begin - 1]):
                yield begin, at


def place_of(text, at):
    before = text[:at]
    return [before.count("\n") + 1, at - before.rfind("\n")]


class RandomSheets(unittest.TestCase):
    def test_they_have_no_fault(self):
        for seed, tokens in enumerate(made_sheets(400)):
            self.assertEqual(check(bytes_of(spread(tokens, seed))), [0, 0, 0, 0])

    def test_their_form_is_its_own_form_and_keeps_the_tokens(self):
        for seed, tokens in enumerate(made_sheets(400)):
            form = form_of(spread(tokens, seed))
            if len(form) <= 3000:
                self.assertEqual(form_of(form), form)
            self.assertEqual(without_brackets(TOKEN.findall(form)), without_brackets(tokens))

    def test_no_brackets_of_a_form_could_go(self):
        pairs = 0
        for tokens in made_sheets(400):
            form = form_of(" ".join(tokens))
            for begin, end in grouping_pairs(form):
                pairs += 1
                less = form[:begin] + form[begin + 1:end] + form[end + 1:]
                answer = show(bytes_of(less))
                self.assertNotEqual(answer[2:], bytes_of(form))
        self.assertGreater(pairs, 200)

    def test_a_wrong_token_is_told_wherever_it_stands(self):
        for seed, tokens in enumerate(made_sheets(60)):
            for place in range(len(tokens) + 1):
                before = spread(tokens[:place], seed)
                text = before + "@" + " ".join([""] + tokens[place:])
                self.assertEqual(check(bytes_of(text)), [0, 1] + place_of(text, len(before)))

    def test_a_sheet_that_breaks_off_has_its_fault_at_the_end(self):
        for seed, tokens in enumerate(made_sheets(60)):
            braces = 0
            for place in range(1, len(tokens)):
                last = tokens[place - 1]
                braces += (last == "{") - (last == "}")
                text = spread(tokens[:place], seed)
                whole = braces == 0 and last in ("}", ";")
                expected = [0, 0, 0, 0] if whole else [0, 2] + place_of(text, len(text))
                self.assertEqual(check(bytes_of(text)), expected)

    def test_any_row_of_tokens_is_answered(self):
        chooser = random.Random(11)
        words = "const fun desk let for in if then else sell zone price amount block under sum a b min abs 1 -".split()
        signs = ["==", "<", "&&", "..", "+", "-", "%", "(", ")", "{", "}", ",", ";", ":", "=", "!", "@"]
        for _ in range(2000):
            tokens = list(chooser.choice(STARTS))
            tokens += [chooser.choice(words + signs) for _ in range(chooser.randrange(12))]
            text = bytes_of(" ".join(tokens))
            answer = check(text)
            self.assertEqual(len(answer), 4)
            self.assertTrue(0 <= answer[1] <= 7)
            self.assertEqual(show(text)[0], 0 if answer[1] == 0 else -3)
