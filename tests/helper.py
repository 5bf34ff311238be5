"""What the tests share: texts written as str, sheets with a mark at the place of their fault, and expansions."""

import unittest

from ordersheets.sheets import check, expand, fold, show, steps

MARK = "^"

# Zones, quarters, and the lowest and the highest price.
MARKET = (2, 2, 0, 100)

MOST_STEPS = 10000

KEY_WORDS = "const fun desk let for in if then else sell buy zone quarter price to amount block under group sum".split()

# The sheet under "Examples" in the document.
EXAMPLE = """
    fun cost(n) = 10 + 5 * n;
    desk north {
      for t in 0 .. 1 { sell zone 0 quarter t price cost(t) to cost(t) + 10 amount 100 * (t + 1); }
      block early buy zone 1 price 40 amount t: if t == 0 then 7 else 0;
      block buy zone 1 price 30 amount t: 3 under early group 2;
    }
"""

# A sheet for each refusal of an expansion.
REFUSED = {
    -11: "const a = 1 / 0;",
    -12: "const a = 999999999999999999 + 2;",
    -13: "desk d { for i in 1 .. 10000 { } }",
    -14: "desk d { sell zone 9 quarter 0 price 0 amount 1; }",
    -15: "desk d { for i in 1 .. 49 { sell zone 0 quarter 0 price 0 amount 1; } }",
    -16: "desk d { block p sell zone 0 price 0 amount t: 0; block sell zone 0 price 0 amount t: 1 under p; }",
}


def bytes_of(text):
    return list(text.encode("latin-1"))


def form_of(text, call=show):
    answer = call(bytes_of(text))
    if answer[0] != 0 or answer[1] != len(answer) - 2:
        raise AssertionError(f"no row: {answer[:5]} of {text!r}")
    return bytes(answer[2:]).decode("latin-1")


def folded(text):
    return form_of(text, fold)


def orders_of(text, market=MARKET):
    """The numbers of each order's row."""
    answer = expand(*market, bytes_of(text))
    if answer[0] != 0:
        raise AssertionError(f"refused: {answer} of {text!r}")
    rows = []
    at = 2
    while at < len(answer):
        rows.append(tuple(answer[at + 1:at + 1 + answer[at]]))
        at += 1 + answer[at]
    if at != len(answer) or len(rows) != answer[1]:
        raise AssertionError(f"no rows: {answer}")
    return rows


def burn(count):
    """A desk without orders that takes so many steps, three at the least."""
    return f"desk burn {{ for burnt in 1 .. {count - 3} {{ }} }} "


def written(value):
    """A number as an exp; one more than a NUMBER can say is let, too."""
    if abs(value) < 10 ** 18:
        return str(value)
    return f"({written(value - value // abs(value))} {'+' if value > 0 else '-'} 1)"


class SheetCase(unittest.TestCase):
    def assert_sound(self, text):
        self.assertEqual(check(bytes_of(text)), [0, 0, 0, 0], text)

    def assert_fault(self, number, marked):
        """The sheet is what's handed in without its mark; the mark stands right before the faulty token."""
        before, mark, after = marked.partition(MARK)
        self.assertEqual(mark, MARK, marked)
        line = before.count("\n") + 1
        column = len(before) - (before.rfind("\n") + 1) + 1
        self.assertEqual(check(bytes_of(before + after)), [0, number, line, column], marked)
        self.assertEqual(show(bytes_of(before + after)), [-3], marked)

    def assert_exp_sound(self, exp):
        self.assert_sound(f"const a = 1; const b = 2; const c = 3; const r = {exp};")

    def assert_exp_fault(self, number, marked):
        self.assert_fault(number, f"const a = 1; const b = 2; const c = 3; const r = {marked};")

    def assert_in_desk_sound(self, statements):
        self.assert_sound("desk d { " + statements + " }")

    def assert_in_desk_fault(self, number, marked):
        self.assert_fault(number, "desk d { " + marked + " }")

    def assert_form(self, form, text):
        self.assertEqual(form_of(text), form)
        self.assertEqual(form_of(form), form)

    def assert_exp_form(self, form, exp):
        given = "const a = 1;\nconst b = 2;\nconst c = 3;\nfun f() = 4;\n"
        self.assert_form(f"{given}const r = {form};\n", f"{given}const r = {exp};")

    def assert_statement_form(self, lines, statements):
        """The lines of the desk's statements, without the two blanks that all of them begin with."""
        form = "".join(f"  {line}\n" for line in lines)
        self.assert_form("desk d {\n" + form + "}\n", "desk d{" + statements + "}")

    def assert_orders(self, rows, text, market=MARKET):
        self.assertEqual(orders_of(text, market), rows, text)

    def assert_refused(self, number, text, market=MARKET):
        self.assertEqual(check(bytes_of(text)), [0, 0, 0, 0], text)
        self.assertEqual(expand(*market, bytes_of(text)), [number], text)
        self.assertEqual(steps(*market, bytes_of(text)), [number], text)

    def assert_value(self, value, exp, given=""):
        """The exp's value shows in an order's amount: 1 if it's this one, else 2."""
        order = f"sell zone 0 quarter 0 price 0 amount if result == {written(value)} then 1 else 2;"
        rows = orders_of(f"{given} const result = {exp}; desk d {{ {order} }}")
        self.assertEqual(rows, [(0, 0, 0, 0, 0, 0, 0, 1)], (value, exp))

    def assert_exp_refused(self, number, exp, given=""):
        self.assert_refused(number, f"{given} const result = {exp};")

    def assert_steps(self, count, text, market=MARKET):
        """It takes so many steps: with as many left it's expanded, with one less it's over."""
        self.assertEqual(steps(*market, bytes_of(text)), [0, count], text)
        last = burn(MOST_STEPS - count) + text
        self.assertEqual(expand(*market, bytes_of(last))[0], 0, text)
        self.assertEqual(steps(*market, bytes_of(last)), [0, MOST_STEPS], text)
        self.assert_refused(-13, burn(MOST_STEPS + 1 - count) + text, market)

    def assert_refused_after(self, count, number, text, market=MARKET):
        """With so many steps it gets as far as this refusal, with one less it doesn't."""
        self.assert_refused(number, burn(MOST_STEPS - count) + text, market)
        self.assert_refused(-13, burn(MOST_STEPS + 1 - count) + text, market)
