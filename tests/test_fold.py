"""fold: the one form of a sheet made simpler."""

from ordersheets.sheets import fold
from tests.helper import EXAMPLE, SheetCase, bytes_of, folded, form_of

GIVEN = "const a = 1;\nconst b = 2;\nconst c = 3;\nfun f(x) = x;\nfun g() = 4;\n"
TOP = "9" * 18


class FoldCase(SheetCase):
    def assert_folded(self, form, text):
        """A sheet made simpler can't be made simpler still, and is in the one form."""
        self.assertEqual(folded(text), form)
        self.assertEqual(folded(form), form)
        self.assertEqual(form_of(form), form)

    def assert_simpler(self, form, exp):
        self.assert_folded(f"{GIVEN}const r = {form};\n", f"{GIVEN}const r = {exp};")

    def assert_stays(self, *exps):
        for exp in exps:
            self.assert_simpler(exp, exp)


class Sheets(FoldCase):
    def test_examples(self):
        self.assertEqual(fold(bytes_of("const a = 2 + 3 * 4;")), [0, 14] + bytes_of("const a = 14;\n"))
        self.assertEqual(fold([]), [0, 0])
        self.assert_folded(form_of(EXAMPLE), EXAMPLE)

    def test_each_exp_of_a_top(self):
        self.assert_folded("const a = 3;\nfun h(x) = 3 + x;\nconst b = h(3);\n",
                           "const a = 1 + 2; fun h(x) = 1 + 2 + x; const b = h(1 + 2);")

    def test_each_exp_of_a_statement(self):
        self.assert_folded(
            "desk d {\n"
            "  let x = 3;\n"
            "  for i in 3 .. 4 {\n"
            "    let y = 5;\n"
            "  }\n"
            "  if 6 {\n"
            "    let y = 7;\n"
            "  } else {\n"
            "    let y = 8;\n"
            "  }\n"
            "  sell zone 9 quarter 10 price 11 amount 12;\n"
            "  buy zone 9 quarter 10 price 11 to 13 amount 12;\n"
            "  block sell zone 14 price 15 amount t: 16;\n"
            "  block p buy zone 14 price 15 amount t: 16 + t group 17;\n"
            "  block q buy zone 14 price 15 amount t: t + 1 + 1 under p group 17;\n"
            "  block buy zone 14 price 15 amount t: t under p;\n"
            "}\n",
            "desk d { let x = 1 + 2; for i in 2 + 1 .. 2 + 2 { let y = 2 + 3; }"
            " if 2 * 3 { let y = 3 + 4; } else { let y = 4 + 4; }"
            " sell zone 4 + 5 quarter 5 + 5 price 5 + 6 amount 6 + 6;"
            " buy zone 4 + 5 quarter 5 + 5 price 5 + 6 to 6 + 7 amount 6 + 6;"
            " block sell zone 7 + 7 price 8 + 7 amount t: 8 + 8;"
            " block p buy zone 7 + 7 price 8 + 7 amount t: 8 + 8 + t group 8 + 9;"
            " block q buy zone 7 + 7 price 8 + 7 amount t: t + 1 + 1 under p group 8 + 9;"
            " block buy zone 7 + 7 price 8 + 7 amount t: t under p; }")

    def test_statements_stay(self):
        self.assert_folded("desk d {\n  if 0 {\n    let x = 1;\n  } else {\n    let y = 2;\n  }\n}\n",
                           "desk d { if 1 - 1 { let x = 1; } else { let y = 2; } }")
        self.assert_folded("desk d {\n  if 1 {\n    let x = 1;\n  } else {\n    let y = 2;\n  }\n}\n",
                           "desk d { if 1 && 1 { let x = 1; } else { let y = 2; } }")
        self.assert_folded("desk d {\n  for i in 2 .. 1 {\n    let x = i;\n  }\n}\n",
                           "desk d { for i in 1 + 1 .. 1 { let x = i; } }")
        self.assert_folded("desk d {\n  sell zone 0 quarter 0 price 0 amount 0;\n}\n",
                           "desk d { sell zone 0 quarter 0 price 0 amount 1 - 1; }")
        self.assert_folded("desk d {\n  sell zone 0 quarter 0 price 5 to 5 amount 1;\n}\n",
                           "desk d { sell zone 0 quarter 0 price 5 to 5 amount 1; }")
        self.assert_folded("desk d {\n  block sell zone 0 price 0 amount t: 0 group 0;\n}\n",
                           "desk d { block sell zone 0 price 0 amount t: 0 group 0; }")

    def test_an_else_without_statements_goes_as_in_the_form(self):
        self.assert_folded("desk d {\n  if 1 {\n  }\n}\n", "desk d { if 1 { } else { } }")

    def test_names_stay(self):
        self.assert_stays("a", "a + b", "a * 0", "a - a", "0 * a", "a == a", "-a", "!a", "a && 0", "a || 1", "f(a)")
        self.assert_folded("const x = 1;\nconst y = x + 1;\n", "const x = 1; const y = x + 1;")

    def test_numbers_lose_their_zeros(self):
        self.assert_simpler("7", "007")
        self.assert_simpler("0", "000")

    def test_each_fault_is_refused(self):
        six = "".join(f"fun f{number}() = 1; " for number in range(6))
        for faulty in ("@", ";", "const a = b;", "const a = 1; const a = 2;", "const a = abs();",
                       "const a = " + "(" * 13 + "1" + ")" * 13 + ";", six + "fun f6() = 1;",
                       "const a = if 1 then 2 else b;", "const a = 1 + 2; @", "desk d {"):
            self.assertEqual(fold(bytes_of(faulty)), [-3])

    def test_what_cannot_be_expanded_is_no_fault(self):
        self.assert_folded("const a = 1 / 0;\n", "const a = 1 / 0;")
        self.assert_folded("desk d {\n  sell zone 99 quarter 0 price 0 amount -1;\n}\n",
                           "desk d { sell zone 99 quarter 0 price 0 amount 0 - 1; }")


class Functions(FoldCase):
    def test_min_max_abs_of_written_numbers(self):
        self.assert_simpler("1", "min(1, 2)")
        self.assert_simpler("1", "min(2, 1)")
        self.assert_simpler("-2", "min(1, -2)")
        self.assert_simpler("2", "max(1, 2)")
        self.assert_simpler("-1", "max(-1, -2)")
        self.assert_simpler("5", "abs(5)")
        self.assert_simpler("5", "abs(-5)")
        self.assert_simpler("0", "abs(-0)")
        self.assert_simpler("3", "min(1 + 2, 2 * 2)")
        self.assert_simpler("4", "max(abs(-4), min(3, 9))")

    def test_of_others(self):
        self.assert_stays("min(a, 1)", "min(1, a)", "max(a, b)", "abs(a)", "abs(-a)", "min(1, 2 / 0)")
        self.assert_simpler("min(3, a)", "min(1 + 2, a)")
        self.assert_simpler("abs(3 + a)", "abs(1 + 2 + a)")

    def test_functions_of_the_sheet_stay_calls(self):
        self.assert_stays("f(1)", "g()", "f(f(1)) + g()", "min(f(1), 2)")
        self.assert_simpler("f(3)", "f(1 + 2)")
        self.assert_simpler("f(3) + g()", "f(1 + 2) + g()")


class Signs(FoldCase):
    def test_minus(self):
        self.assert_stays("-5", "-a", "--a", "-f(1)", "-(a + b)")
        self.assert_simpler("0", "-0")
        self.assert_simpler("0", "-00")
        self.assert_simpler("5", "--5")
        self.assert_simpler("-5", "---5")
        self.assert_simpler("5", "-(-5)")
        self.assert_simpler("0", "--0")
        self.assert_simpler("-3", "-(1 + 2)")
        self.assert_simpler("3", "-(1 - 4)")
        self.assert_simpler("-5", "-007 + 2")
        self.assert_simpler(f"-{TOP}", f"-{TOP}")
        self.assert_simpler(TOP, f"--{TOP}")

    def test_not(self):
        self.assert_stays("!a", "!!a", "!f(1)")
        self.assert_simpler("1", "!0")
        self.assert_simpler("0", "!1")
        self.assert_simpler("0", "!7")
        self.assert_simpler("0", "!-7")
        self.assert_simpler("1", "!-0")
        self.assert_simpler("1", "!!7")
        self.assert_simpler("-1", "-!0")
        self.assert_simpler("1", "!(1 - 1)")


class SumsAndProducts(FoldCase):
    def test_all_written(self):
        self.assert_simpler("3", "1 + 2")
        self.assert_simpler("-1", "1 - 2")
        self.assert_simpler("0", "1 - 1")
        self.assert_simpler("-4", "1 - 2 - 3")
        self.assert_simpler("6", "2 * 3")
        self.assert_simpler("-6", "2 * -3")
        self.assert_simpler("-4", "-7 / 2")
        self.assert_simpler("1", "-7 % 2")
        self.assert_simpler("-1", "7 % -2")
        self.assert_simpler("14", "2 + 3 * 4")
        self.assert_simpler("20", "(2 + 3) * 4")
        self.assert_simpler("10", "1 + 2 + 3 + 4")
        self.assert_simpler("2", "100 / 10 / 5")
        self.assert_simpler("0", "0 / 5")
        self.assert_simpler("-3", "-1 - 2")
        self.assert_simpler("3", "1 - -2")

    def test_the_first_two_as_long_as_they_are_written(self):
        self.assert_simpler("3 + a", "1 + 2 + a")
        self.assert_simpler("6 + a", "1 + 2 + 3 + a")
        self.assert_simpler("-1 + a", "1 - 2 + a")
        self.assert_simpler("3 - a + 4", "1 + 2 - a + 4")
        self.assert_simpler("6 * a", "2 * 3 * a")
        self.assert_simpler("-6 * a", "2 * -3 * a")
        self.assert_simpler("2 % a * 3 / 3", "14 / 7 % a * 3 / 3")
        self.assert_simpler("3 + a + b + 1 + 1", "1 + 2 + a + b + 1 + 1")
        self.assert_simpler("0 + a", "1 - 1 + a")
        self.assert_simpler("1 * a", "1 * 1 * a")

    def test_later_ones_stay(self):
        self.assert_stays("a + 1 + 2", "1 + a + 2 + 3", "a * 2 * 3", "2 * a * 3 * 4", "a - 1 - 1", "a / 2 / 2",
                          "a + 1 * b")
        self.assert_simpler("a + 6 + 20", "a + 2 * 3 + 4 * 5")
        self.assert_simpler("a + 5", "a + (2 + 3)")
        self.assert_simpler("a - -1", "a - (2 - 3)")
        self.assert_simpler("a * 5 + 0", "a * (2 + 3) + 0")

    def test_operands_are_made_simpler_first(self):
        self.assert_simpler("26 + a", "2 * 3 + 4 * 5 + a")
        self.assert_simpler("0 + a", "-0 + a")
        self.assert_simpler("a + 5", "a + --5")
        self.assert_simpler("3 * a", "(1 + 2) * a")
        self.assert_simpler("-3 * a", "-(1 + 2) * a")

    def test_a_divisor_0(self):
        self.assert_stays("1 / 0", "1 % 0", "0 / 0", "1 / 0 * 2", "1 / 0 / 3", "1 + 1 / 0", "a / 0", "1 / 0 + 1 + 1")
        self.assert_simpler("6 / 0", "2 * 3 / 0")
        self.assert_simpler("6 % 0 * 7 * 8", "2 * 3 % 0 * 7 * 8")
        self.assert_simpler("1 / 0", "1 / (2 - 2)")
        self.assert_simpler("1 / 0", "1 / -0")
        self.assert_simpler("3 + 1 / 0 + 1", "1 + 2 + 1 / 0 + 1")

    def test_a_result_that_is_too_great(self):
        self.assert_stays(f"{TOP} + 1", f"-{TOP} - 1", f"{TOP} - -1", f"{TOP} * {TOP}", f"{TOP} + 1 - 1",
                          f"{TOP} + {TOP} - {TOP}", "1000000000 * 1000000000", "1000000000 * -1000000000",
                          "-1000000000 * 1000000000 / 2")
        self.assert_simpler(f"{TOP} + 1 + 5", "999999999999999998 + 1 + 1 + 5")
        self.assert_simpler(f"-{TOP} + -1", "-999999999999999998 - 1 + -1")

    def test_a_result_nearer_to_0(self):
        self.assert_simpler(TOP, "999999999999999998 + 1")
        self.assert_simpler(f"-{TOP}", "-999999999999999998 - 1")
        self.assert_simpler("999999999000000000", "1000000000 * 999999999")
        self.assert_simpler("-999999999000000000", "-1000000000 * 999999999")
        self.assert_simpler(TOP, f"{TOP} * 1")
        self.assert_simpler(TOP, "333333333333333333 * 3")

    def test_chains_in_chains(self):
        self.assert_stays("(a + b) + c", "a + (b + c)", "(a + 1) + 2", "1 + (2 + a)", "(a * b) * c")
        self.assert_simpler("3 + (4 + a)", "1 + 2 + (1 + 3 + a)")
        self.assert_simpler("3 + a + b", "(1 + 2) + a + b")
        self.assert_simpler("(3 + a) + b", "(1 + 2 + a) + b")

    def test_long_chains(self):
        self.assert_folded("const a = 1400;\n", "const a = " + "+".join(["1"] * 1400) + ";")
        self.assert_folded("const a = 1;\n", "const a = " + "*".join(["1"] * 1400) + ";")
        self.assert_folded("const a = 1;\n", "const a = " + "&&".join(["1"] * 900) + ";")


class Comparisons(FoldCase):
    def test_of_written_numbers(self):
        for left in (-1, 0, 1):
            for right in (-1, 0, 1):
                self.assert_simpler(int(left == right), f"{left} == {right}")
                self.assert_simpler(int(left != right), f"{left} != {right}")
                self.assert_simpler(int(left <= right), f"{left} <= {right}")
                self.assert_simpler(int(left >= right), f"{left} >= {right}")
                self.assert_simpler(int(left < right), f"{left} < {right}")
                self.assert_simpler(int(left > right), f"{left} > {right}")
        self.assert_simpler("1", "1 + 2 == 3")
        self.assert_simpler("1", "-0 == 0")

    def test_of_others(self):
        self.assert_stays("a == 1", "1 < a", "a >= b", "1 / 0 == 1", "f(1) != 1")
        self.assert_simpler("a == 3", "a == 1 + 2")
        self.assert_simpler("3 < a", "1 + 2 < a")
        self.assert_simpler("(a == 1) == 1", "(a == 1) == (1 == 1)")


class Both(FoldCase):
    def test_the_first_decides(self):
        self.assert_simpler("0", "0 && a")
        self.assert_simpler("0", "0 && a && b")
        self.assert_simpler("0", "0 && 1 / 0")
        self.assert_simpler("0", "-0 && a")
        self.assert_simpler("0", "1 - 1 && a")
        self.assert_simpler("0", "0 && 1")

    def test_a_later_one_would(self):
        self.assert_stays("1 && 0 && a", "a && 0", "a && 0 && b", "1 && a && 0", "1 && a", "-1 && a", "1 && 1 && a")
        self.assert_simpler("a && 0", "a && 1 - 1")

    def test_all_written(self):
        self.assert_simpler("1", "1 && 2")
        self.assert_simpler("1", "1 && -2 && 3")
        self.assert_simpler("0", "1 && 0")
        self.assert_simpler("0", "1 && 2 && 0")
        self.assert_simpler("0", "1 && 0 && 2")
        self.assert_simpler("0", "0 && 0")
        self.assert_simpler("1", "1 + 1 && 2 == 2")


class Either(FoldCase):
    def test_the_first_decides(self):
        self.assert_simpler("1", "1 || a")
        self.assert_simpler("1", "7 || a || b")
        self.assert_simpler("1", "-7 || 1 / 0")
        self.assert_simpler("1", "2 - 1 || a")
        self.assert_simpler("1", "5 || 0")

    def test_a_later_one_would(self):
        self.assert_stays("0 || 1 || a", "a || 1", "a || 1 || b", "0 || a || 1", "0 || a", "0 || 0 || a")
        self.assert_simpler("0 || a", "-0 || a")
        self.assert_simpler("a || 1", "a || 2 - 1")

    def test_all_written(self):
        self.assert_simpler("0", "0 || 0")
        self.assert_simpler("0", "0 || -0 || 0")
        self.assert_simpler("1", "0 || 5")
        self.assert_simpler("1", "0 || 0 || -5")
        self.assert_simpler("1", "0 || 5 || 0")
        self.assert_simpler("1", "1 || 1")

    def test_both_in_either(self):
        self.assert_simpler("a || 0", "a || 0 && b")
        self.assert_simpler("1", "0 && a || 1")
        self.assert_simpler("0 || a && b", "0 && a || a && b")


class Choices(FoldCase):
    def test_a_written_condition(self):
        self.assert_simpler("a", "if 1 then a else b")
        self.assert_simpler("a", "if -1 then a else b")
        self.assert_simpler("b", "if 0 then a else b")
        self.assert_simpler("b", "if -0 then a else b")
        self.assert_simpler("b", "if 1 > 2 then a else b")
        self.assert_simpler("3 + a", "if 1 then 1 + 2 + a else b")
        self.assert_simpler("3 + a", "if 0 then b else 1 + 2 + a")
        self.assert_simpler("7", "if 1 then 7 else 1 / 0")
        self.assert_simpler("if a then b else c", "if 1 then if a then b else c else 0")

    def test_another_condition(self):
        self.assert_stays("if a then b else c", "if a then 1 else 0", "if 1 / 0 then 1 else 1", "if f(1) then 1 else 2")
        self.assert_simpler("if 3 + a then 4 else 5", "if 1 + 2 + a then 2 + 2 else 2 + 3")
        self.assert_simpler("if a then 2 else 3", "if a then if 1 then 2 else 9 else if 0 then 9 else 3")

    def test_within_others(self):
        self.assert_simpler("5", "(if 1 then 2 else a) + 3")
        self.assert_simpler("-2", "-(if 1 then 2 else a)")
        self.assert_simpler("2", "abs(if 1 then -2 else a)")
        self.assert_simpler("b", "if (if 1 then 0 else a) then a else b")


class Sums(FoldCase):
    def test_the_second_bound_is_less(self):
        self.assert_simpler("0", "sum(i in 1 .. 0: i)")
        self.assert_simpler("0", "sum(i in 1 .. 0: 1 / 0)")
        self.assert_simpler("0", "sum(i in 0 .. -1: a)")
        self.assert_simpler("0", "sum(i in 1 + 1 .. 1: a)")
        self.assert_simpler("0", "sum(i in -1 .. -2: a)")
        self.assert_simpler("5", "sum(i in 1 .. 0: i) + 5")

    def test_others_stay(self):
        self.assert_stays("sum(i in 0 .. 0: i)", "sum(i in 0 .. 1: i)", "sum(i in 1 .. 3: 0)", "sum(i in a .. 0: i)",
                          "sum(i in 1 .. a: i)", "sum(i in a .. a - 1: i)", "sum(i in 1 .. 2: 1)")

    def test_their_exps(self):
        self.assert_simpler("sum(i in 3 .. 4: 5 + i)", "sum(i in 1 + 2 .. 2 + 2: 2 + 3 + i)")
        self.assert_simpler("sum(i in a .. 4: 5)", "sum(i in a .. 2 + 2: 2 + 3)")
        self.assert_simpler("sum(i in 1 .. 2: 0)", "sum(i in 1 .. 2: sum(j in 2 .. 1: i))")


class Brackets(FoldCase):
    def test_no_longer_needed(self):
        self.assert_simpler("a * 3", "a * (1 + 2)")
        self.assert_simpler("a * -1", "a * (1 - 2)")
        self.assert_simpler("a * b", "a * (if 1 then b else c)")
        self.assert_simpler("a + b * c", "a + (if 1 then b * c else 0)")
        self.assert_simpler("a && 1", "a && (1 || b)")
        self.assert_simpler("-b", "-(if 1 then b else c)")
        self.assert_simpler("a - -5", "a - (-5)")

    def test_needed_in_the_simpler_sheet(self):
        self.assert_simpler("a * (b + c)", "a * (if 1 then b + c else 0)")
        self.assert_simpler("(a + b) + c", "(if 1 then a + b else 0) + c")
        self.assert_simpler("(if a then b else c) + 1", "(if 1 then if a then b else c else 0) + 1")
        self.assert_simpler("-(a + b)", "-(if 0 then c else a + b)")
        self.assert_simpler("(a || b) && c", "(if 1 then a || b else 0) && c")
        self.assert_simpler("a && (b || c)", "a && (if 1 then (b || c) else 0)")
        self.assert_simpler("(a == b) < c", "(if 1 then a == b else 0) < c")

    def test_deep_exps(self):
        self.assert_simpler("1", "(0 || 1 && 0 < 0 + 1 * " * 12 + "1" + ")" * 12)
        stays = "(0 || 1 && 0 < 0 + 1 * " * 11 + "(0 || a)" + ")" * 11
        self.assert_simpler(stays[1:-1], stays)
        self.assert_simpler("-5", "-" * 13 + "5")
        self.assert_simpler("5", "-(" * 6 + "5" + ")" * 6)
