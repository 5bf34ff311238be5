"""check: how deep exps and statements may go (fault 6), and how many functions and parameters (fault 7)."""

from tests.helper import SheetCase

GIVEN = "fun one(p) = p; fun none() = 1; "

# Each opens one level; what's within stands at the two braces.
LEVELS = (
    "({0})",
    "abs({0})",
    "min({0}, 1)",
    "max(1, {0})",
    "one({0})",
    "sum(v{1} in {0} .. 1: 1)",
    "sum(v{1} in 0 .. {0}: 1)",
    "sum(v{1} in 0 .. 1: {0})",
    "if {0} then 1 else 1",
    "if 1 then {0} else 1",
    "if 1 then 1 else {0}",
)
OPENERS = ("(1)", "none()", "abs(1)", "sum(w in 0 .. 1: 1)", "if 1 then 1 else 1", "- x", "!1", "-(1)", "- -1")


def nested(level, count, inner):
    exp = inner
    for number in range(count):
        exp = level.format(exp, number)
    return exp


class ExpLevels(SheetCase):
    def test_12_levels_of_each_kind(self):
        for level in LEVELS:
            self.assert_sound(f"{GIVEN}const r = {nested(level, 12, '1')};")
            self.assert_sound(f"{GIVEN}const r = {nested(level, 12, '-1 + 1 * -2 == -3 && -4')};")

    def test_a_13th_level_of_each_kind(self):
        for level in LEVELS:
            for opener in OPENERS:
                self.assert_fault(6, f"const x = 1; {GIVEN}const r = {nested(level, 12, '^' + opener)};")
            self.assert_sound(f"const x = 1; {GIVEN}const r = {nested(level, 11, 'x + (1) + none() + -x + !1')};")

    def test_signs_before_a_unary(self):
        for sign in "-!":
            self.assert_exp_sound(sign * 12 + "a")
            self.assert_exp_fault(6, sign * 12 + "^" + sign + "a")
            self.assert_exp_fault(6, sign * 12 + "^(a)")
            self.assert_exp_fault(6, sign * 12 + "^abs(a)")
            self.assert_exp_fault(6, sign * 12 + "^sum(i in 0 .. 1: i)")
        self.assert_exp_fault(6, "-" * 12 + "^!1")
        self.assert_exp_fault(6, "!" * 12 + "^-a")

    def test_a_minus_ahead_of_a_number_opens_no_level(self):
        self.assert_exp_sound("-" * 13 + "1")
        self.assert_exp_fault(6, "-" * 12 + "^--1")
        self.assert_exp_sound("!" * 12 + "-1")
        self.assert_exp_sound("!" * 12 + "- # comment\n 1")
        self.assert_exp_sound("(" * 12 + "-1" + ")" * 12)
        self.assert_exp_sound("(" * 12 + "- 1 - -1" + ")" * 12)
        self.assert_exp_fault(6, "(" * 12 + "^-a" + ")" * 12)
        self.assert_exp_fault(6, "(" * 12 + "^!1" + ")" * 12)
        self.assert_exp_fault(6, "(" * 12 + "1 - ^-(1)" + ")" * 12)

    def test_a_sign_between_operands_opens_no_level(self):
        self.assert_exp_sound("(" * 12 + "a - b" + ")" * 12)
        self.assert_exp_sound("-".join(["a"] * 20))

    def test_levels_side_by_side(self):
        self.assert_exp_sound(" + ".join(["(" * 12 + "a" + ")" * 12] * 3))
        self.assert_exp_sound("min(" + "(" * 11 + "a" + ")" * 11 + ", " + "(" * 11 + "a" + ")" * 11 + ")")
        self.assert_exp_fault(6, "min(" + "(" * 11 + "a" + ")" * 11 + ", " + "(" * 11 + "^(a))" + ")" * 11 + ")")
        self.assert_exp_fault(6, "((a)) + " + "(" * 12 + "^(a)" + ")" * 12)
        self.assert_exp_sound("-a + !b" + " * -a" * 20)

    def test_levels_are_counted_anew_in_each_exp(self):
        deep = "(" * 12 + "1" + ")" * 12
        too_deep = "(" * 12 + "^(1)" + ")" * 12
        self.assert_sound(f"const a = {deep}; fun f(x) = {deep}; fun g() = {deep};")
        self.assert_fault(6, f"fun f(x) = {too_deep};")
        statements = (
            "let y = {0};",
            "for i in {0} .. {1} {{ }}",
            "if {0} {{ }}",
            "sell zone {0} quarter {1} price {2} to {3} amount {4};",
            "block b buy zone {0} price {1} amount t: {2} group {3};",
        )
        for statement in statements:
            exps = [deep] * 5
            self.assert_in_desk_sound(statement.format(*exps))
            self.assert_in_desk_sound("if 1 { if 1 { " + statement.format(*exps) + " } }")
            for place in range(5):
                if "{%d}" % place in statement:
                    self.assert_in_desk_fault(6, statement.format(*exps[:place], too_deep, *exps[place + 1:]))

    def test_a_functions_name_too_deep_is_told_ahead_of_its_arguments(self):
        self.assert_exp_fault(6, "(" * 12 + "^abs()")
        self.assert_exp_fault(6, "(" * 12 + "^abs")

    def test_a_name_that_opens_no_level(self):
        self.assert_exp_sound("(" * 12 + "a" + ")" * 12)


class Braces(SheetCase):
    def test_6_pairs_of_braces(self):
        for inner in ("", "let y = 1;", "sell zone 0 quarter 0 price 0 amount 0;"):
            self.assert_in_desk_sound("if 1 { " * 6 + inner + " }" * 6)
            self.assert_in_desk_sound("if 1 { } else { " * 6 + inner + " }" * 6)
            fors = "".join(f"for i{number} in 0 .. 1 {{ " for number in range(6))
            self.assert_in_desk_sound(fors + inner + " }" * 6)

    def test_a_7th_pair(self):
        fors = "".join(f"for i{number} in 0 .. 1 {{ " for number in range(6))
        for seventh in ("^if 1 { }", "^for x in 0 .. 1 { }", "let y = 1; ^if 1 { }", "^if", "^for"):
            self.assert_in_desk_fault(6, "if 1 { " * 6 + seventh + " }" * 6)
            self.assert_in_desk_fault(6, "if 1 { } else { " * 6 + seventh + " }" * 6)
            self.assert_in_desk_fault(6, fors + seventh + " }" * 6)
            self.assert_in_desk_fault(6, "if 1 { for i in 0 .. 1 { } " + "if 1 { " * 5 + seventh + " }" * 6)

    def test_braces_side_by_side(self):
        self.assert_in_desk_sound(("if 1 { " * 6 + " }" * 6) * 3)
        self.assert_sound("desk d { if 1 { if 1 { } } } desk e { " + "if 1 { " * 6 + " }" * 6 + " }")


class Counts(SheetCase):
    def test_6_functions(self):
        self.assert_sound("".join(f"fun f{number}() = 1; " for number in range(6)) + "const a = f5();")

    def test_a_7th_function(self):
        six = "".join(f"fun f{number}() = 1; " for number in range(6))
        self.assert_fault(7, six + "^fun f6() = 1;")
        self.assert_fault(7, six + "const a = 1; desk d { } ^fun")
        self.assert_fault(7, six + "^fun f0() = 1;")

    def test_6_parameters(self):
        self.assert_sound("fun f(a, b, c, d, e, g) = a + g;")

    def test_a_7th_parameter(self):
        for seventh in ("h", "a", "f", "min", "in", ")", ",", "1", "=", ";", ""):
            self.assert_fault(7, f"fun f(a, b, c, d, e, g, ^{seventh}")
            self.assert_fault(7, f"fun f(a, b, c, d, e, g,\n ^{seventh}")
        self.assert_fault(1, "fun f(a, b, c, d, e, g, ^@")
        self.assert_fault(2, "fun f(a, b, c, d, e, g ^h")
