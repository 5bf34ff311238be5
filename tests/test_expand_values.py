"""expand: the values of exps, and what can't be worked out (-11, -12)."""

from tests.helper import SheetCase

GREATEST = 10 ** 18

# 10^18 and its like, which no NUMBER can say.
GIVEN = (
    "const top = 999999999999999999 + 1; const bottom = -top; const a = 1; const b = 2; const c = 3;"
    "fun same(x) = x; fun seven() = 7; fun less(x, y) = x - y; fun six(p, q, r, s, t, u) = p * q - r * s + t - u;"
)


class ValueCase(SheetCase):
    def assert_worth(self, value, exp):
        self.assert_value(value, exp, GIVEN)

    def assert_not_worked_out(self, number, exp):
        self.assert_exp_refused(number, exp, GIVEN)


class Operators(ValueCase):
    def test_numbers_and_names(self):
        self.assert_worth(0, "0")
        self.assert_worth(7, "007")
        self.assert_worth(GREATEST - 1, "9" * 18)
        self.assert_worth(3, "c")
        self.assert_worth(GREATEST, "top")

    def test_plus_minus_times(self):
        self.assert_worth(5, "b + c")
        self.assert_worth(-1, "b - c")
        self.assert_worth(6, "b * c")
        self.assert_worth(-6, "b * -c")
        self.assert_worth(-4, "1 - 2 - 3")
        self.assert_worth(2, "1 - (2 - 3)")
        self.assert_worth(14, "2 + 3 * 4")
        self.assert_worth(20, "(2 + 3) * 4")
        self.assert_worth(10 - 2 * 3 + 4 * 5, "10 - 2 * 3 + 4 * 5")

    def test_the_quotient_is_rounded_down(self):
        for left in range(-9, 10):
            for right in (-4, -3, -2, -1, 1, 2, 3, 4):
                self.assert_worth(left // right, f"{left} / {right}")
        self.assert_worth(-4, "-7 / 2")
        self.assert_worth(-4, "7 / -2")
        self.assert_worth(3, "-7 / -2")
        self.assert_worth(-1, "-1 / 999999999999999999")
        self.assert_worth(0, "1 / 999999999999999999")

    def test_the_rest_belongs_to_the_quotient(self):
        for left in range(-9, 10):
            for right in (-4, -3, -2, -1, 1, 2, 3, 4):
                self.assert_worth(left - left // right * right, f"{left} % {right}")
        self.assert_worth(1, "-7 % 2")
        self.assert_worth(-1, "7 % -2")
        self.assert_worth(-1, "-7 % -2")
        self.assert_worth(999999999999999998, "-1 % 999999999999999999")

    def test_chains_go_from_the_left(self):
        self.assert_worth(5, "100 / 10 / 2")
        self.assert_worth(20, "100 / (10 / 2)")
        self.assert_worth(6, "7 / 2 * 2")
        self.assert_worth(7, "7 * 2 / 2")
        self.assert_worth(2, "17 % 10 % 5")
        self.assert_worth(3, "17 % 10 * 3 / 7 % 4 * 1")

    def test_signs_before_a_unary(self):
        self.assert_worth(-5, "-5")
        self.assert_worth(5, "--5")
        self.assert_worth(0, "-0")
        self.assert_worth(-3, "-c")
        self.assert_worth(-GREATEST, "-top")
        self.assert_worth(GREATEST, "-bottom")
        self.assert_worth(1, "!0")
        self.assert_worth(0, "!1")
        self.assert_worth(0, "!-1")
        self.assert_worth(0, "!5")
        self.assert_worth(1, "!!5")
        self.assert_worth(-1, "-!0")
        self.assert_worth(-1, "-c + b")
        self.assert_worth(-6, "-b * c")

    def test_comparisons(self):
        for left in (-1, 0, 1):
            for right in (-1, 0, 1):
                self.assert_worth(int(left == right), f"{left} == {right}")
                self.assert_worth(int(left != right), f"{left} != {right}")
                self.assert_worth(int(left <= right), f"{left} <= {right}")
                self.assert_worth(int(left >= right), f"{left} >= {right}")
                self.assert_worth(int(left < right), f"{left} < {right}")
                self.assert_worth(int(left > right), f"{left} > {right}")
        self.assert_worth(1, "b + c == 5")
        self.assert_worth(0, "(1 == 5) == 1")
        self.assert_worth(1, "7 - 2 * 3 == 1 && !0")


class Conditions(ValueCase):
    def test_both(self):
        for values in ((0, 0), (0, 2), (2, 0), (2, -3), (1, 1, 1), (1, 0, 1), (1, 1, 0), (5, 6, 7)):
            self.assert_worth(int(all(values)), " && ".join(map(str, values)))

    def test_either(self):
        for values in ((0, 0), (0, 2), (2, 0), (2, -3), (0, 0, 0), (0, 5, 0), (0, 0, -1), (5, 6, 7)):
            self.assert_worth(int(any(values)), " || ".join(map(str, values)))

    def test_both_is_stronger_than_either(self):
        self.assert_worth(1, "1 || 0 && 0")
        self.assert_worth(0, "(1 || 0) && 0")
        self.assert_worth(1, "0 && 0 || 1")

    def test_both_stops_at_a_0(self):
        self.assert_worth(0, "0 && 1 / 0")
        self.assert_worth(0, "1 && 0 && 1 / 0 && 2")
        self.assert_not_worked_out(-11, "1 && 1 / 0")
        self.assert_not_worked_out(-11, "1 && 1 / 0 && 0")
        self.assert_not_worked_out(-11, "1 / 0 && 0")

    def test_either_stops_at_what_is_not_0(self):
        self.assert_worth(1, "1 || 1 / 0")
        self.assert_worth(1, "0 || -2 || 1 / 0 || 0")
        self.assert_not_worked_out(-11, "0 || 1 / 0")
        self.assert_not_worked_out(-11, "0 || 1 / 0 || 1")
        self.assert_not_worked_out(-11, "1 / 0 || 1")

    def test_if(self):
        self.assert_worth(2, "if 1 then 2 else 3")
        self.assert_worth(2, "if -1 then 2 else 3")
        self.assert_worth(3, "if 0 then 2 else 3")
        self.assert_worth(4, "if 0 then 2 else 3 + 1")
        self.assert_worth(3, "(if 1 then 2 else 3) + 1")
        self.assert_worth(5, "if a == 2 then 4 else if a == 1 then 5 else 6")

    def test_only_the_taken_part_is_worked_out(self):
        self.assert_worth(2, "if 1 then 2 else 1 / 0")
        self.assert_worth(3, "if 0 then 1 / 0 else 3")
        self.assert_not_worked_out(-11, "if 1 / 0 then 2 else 3")
        self.assert_not_worked_out(-11, "if 1 then 1 / 0 else 3")
        self.assert_not_worked_out(-11, "if 0 then 2 else 1 / 0")


class Functions(ValueCase):
    def test_functions_from_the_beginning(self):
        self.assert_worth(-3, "min(2, -3)")
        self.assert_worth(-3, "min(-3, 2)")
        self.assert_worth(2, "max(2, -3)")
        self.assert_worth(2, "max(-3, 2)")
        self.assert_worth(4, "min(4, 4)")
        self.assert_worth(4, "max(4, 4)")
        self.assert_worth(3, "abs(-3)")
        self.assert_worth(3, "abs(3)")
        self.assert_worth(0, "abs(0)")
        self.assert_worth(GREATEST, "abs(bottom)")

    def test_functions_of_the_sheet(self):
        self.assert_worth(7, "seven()")
        self.assert_worth(-4, "same(-4)")
        self.assert_worth(3, "less(5, 2)")
        self.assert_worth(-3, "less(2, 5)")
        self.assert_worth(1 * 2 - 3 * 4 + 5 - 6, "six(1, 2, 3, 4, 5, 6)")
        self.assert_worth(4, "less(less(9, 3), less(5, same(3)))")

    def test_consts_in_functions(self):
        self.assert_value(42, "f(2)", "const k = 40; fun f(x) = k + x;")
        self.assert_value(42, "g(1)", "const k = 40; fun f(x) = k + x; const m = 1; fun g(x) = f(x) + m;")

    def test_a_parameters_name_may_be_used_again_elsewhere(self):
        self.assert_value(23, "f(3) + x", "fun f(x) = x; const x = 20;")
        self.assert_value(13, "g(3)", "fun f(x) = x + 5; fun g(x) = f(x + 5) * 0 + f(x + 5);")
        self.assert_value(43, "g(4)", "fun f(x) = x * 10; fun g(x) = f(x) + x - 1;")
        self.assert_value(106, "f(3) + i", "fun f(n) = sum(i in 1 .. n: i); const i = 100;")
        self.assert_value(200, "sum(x in 1 .. 3: f(x) * 0) + i + i", "fun f(i) = i; const i = 100;")

    def test_a_call_leaves_the_names_around_it_alone(self):
        given = "fun f(x, y) = x * 10 + y; fun g(x, y) = f(x, y) + f(3, 4) + (x - 1) * y;"
        self.assert_value(12 + 34, "g(1, 2)", given)
        self.assert_value(3 * 100 + 1 + 2 + 3, "sum(i in 1 .. 3: f(50) * 2 + i)", "fun f(i) = i;")
        self.assert_value(3 * 15 + 1 + 2 + 3, "sum(i in 1 .. 3: f(5) + i)", "fun f(n) = sum(i in 1 .. n: i);")
        given = "fun f(n) = sum(i in 1 .. n: i); fun g(n) = sum(i in 1 .. n: f(4) * i + i);"
        self.assert_value(10 * 6 + 6, "g(3)", given)

    def test_arguments_are_worked_out_from_the_left_ahead_of_the_exp(self):
        self.assert_not_worked_out(-11, "less(1 / 0, top * top)")
        self.assert_not_worked_out(-12, "less(top * top, 1 / 0)")
        self.assert_exp_refused(-12, "f(top * top)", GIVEN + "fun f(x) = 1 / 0;")
        self.assert_exp_refused(-11, "f(1 / 0)", "fun f(x) = 5;")
        self.assert_not_worked_out(-11, "min(1 / 0, top * top)")
        self.assert_not_worked_out(-12, "max(top * top, 1 / 0)")


class Sums(ValueCase):
    def test_turns(self):
        self.assert_worth(30, "sum(i in 1 .. 4: i * i)")
        self.assert_worth(5, "sum(i in 5 .. 5: i)")
        self.assert_worth(-3, "sum(i in -3 .. 2: i)")
        self.assert_worth(4, "sum(i in 1 .. 4: 1)")
        self.assert_worth(4, "sum(i in top - 1 .. top: 2)")
        self.assert_worth(4, "sum(i in bottom .. bottom + 1: 2)")

    def test_no_turn(self):
        self.assert_worth(0, "sum(i in 1 .. 0: i)")
        self.assert_worth(0, "sum(i in 5 .. -5: 1 / 0)")
        self.assert_worth(0, "sum(i in top .. bottom: 1 / 0)")

    def test_sums_in_sums(self):
        self.assert_worth(1 * (1 + 2 + 3) + 2 * (2 + 3) + 3 * 3, "sum(i in 1 .. 3: sum(j in i .. 3: i * j))")
        self.assert_worth(1 + 2 + 3, "sum(i in sum(i in 1 .. 1: i) .. sum(i in 1 .. 2: i): i)")
        self.assert_worth(3 + 7, "sum(i in 1 .. 2: i) + sum(i in 3 .. 4: i)")

    def test_bounds_are_worked_out_once_and_first(self):
        self.assert_not_worked_out(-11, "sum(i in 1 / 0 .. top * top: 1)")
        self.assert_not_worked_out(-12, "sum(i in top * top .. 1 / 0: 1)")
        self.assert_not_worked_out(-11, "sum(i in 5 .. 1 / 0: top * top)")

    def test_a_sum_beyond_the_greatest(self):
        self.assert_worth(GREATEST, "sum(i in 0 .. 1: top / 2)")
        self.assert_worth(-GREATEST, "sum(i in 0 .. 1: bottom / 2)")
        self.assert_worth(GREATEST, "sum(i in 0 .. 1: if i then 1 else top - 1)")
        self.assert_not_worked_out(-12, "sum(i in 0 .. 1: if i then 1 else top)")
        self.assert_not_worked_out(-12, "sum(i in 0 .. 1: if i then -1 else bottom)")
        self.assert_not_worked_out(-12, "sum(i in 0 .. 2: top / 2)")

    def test_the_sum_so_far_is_asked_at_each_turn(self):
        self.assert_worth(GREATEST, "sum(i in 0 .. 2: if i == 0 then top else if i == 1 then -1 else 1)")
        self.assert_not_worked_out(-12, "sum(i in 0 .. 2: if i == 0 then top else if i == 1 then 1 else -1)")
        self.assert_not_worked_out(-12, "sum(i in 0 .. 2: if i < 2 then top else 1 / 0)")


class NoDivisor(ValueCase):
    def test_a_divisor_0(self):
        for exp in ("1 / 0", "1 % 0", "0 / 0", "0 % 0", "1 / (b - 2)", "b % (a - 1)", "top / 0", "6 / 2 / 0 * 5"):
            self.assert_not_worked_out(-11, exp)

    def test_0_may_be_divided(self):
        self.assert_worth(0, "0 / 5")
        self.assert_worth(0, "0 % -5")


class TooGreat(ValueCase):
    def test_exactly_the_greatest(self):
        self.assert_worth(GREATEST, "999999999999999999 + 1")
        self.assert_worth(-GREATEST, "-999999999999999999 - 1")
        self.assert_worth(GREATEST, "1000000000 * 1000000000")
        self.assert_worth(-GREATEST, "1000000000 * -1000000000")
        self.assert_worth(GREATEST, "top / 1")
        self.assert_worth(-GREATEST, "top / -1")
        self.assert_worth(GREATEST, "bottom / -1")
        self.assert_worth(GREATEST, "top + 0")
        self.assert_worth(GREATEST, "top - 0")
        self.assert_worth(0, "top % top")

    def test_one_more(self):
        for exp in ("top + 1", "1 + top", "bottom - 1", "bottom + -1", "top - -1", "top + 1 - 1", "1 - top - 2"):
            self.assert_not_worked_out(-12, exp)

    def test_beyond_it(self):
        for exp in ("top * 2", "top * -2", "bottom * 2", "top * top", "top - bottom", "1000000001 * 1000000000",
                    "top * 2 / 2"):
            self.assert_not_worked_out(-12, exp)

    def test_an_order_that_stays_within(self):
        self.assert_worth(GREATEST, "top - 1 + 1")
        self.assert_worth(GREATEST, "top / 2 * 2")


class WhichFirst(ValueCase):
    def test_from_the_left_to_the_right(self):
        self.assert_not_worked_out(-11, "1 / 0 + top * top")
        self.assert_not_worked_out(-12, "top * top + 1 / 0")
        self.assert_not_worked_out(-11, "1 / 0 == top + 1")
        self.assert_not_worked_out(-12, "top + 1 == 1 / 0")
        self.assert_not_worked_out(-12, "top * 2 / 0")
        self.assert_not_worked_out(-11, "top / 0 * top")

    def test_a_sign_is_asked_when_both_its_sides_are_worked_out(self):
        self.assert_not_worked_out(-11, "top + 1 / 0")
        self.assert_not_worked_out(-12, "top + 1 + 1 / 0")
        self.assert_not_worked_out(-12, "1 / 2 + (top + 1) % 0")
        self.assert_not_worked_out(-12, "1 / (top + 1) / 0")
        self.assert_not_worked_out(-11, "1 / 0 / (top + 1)")
        self.assert_not_worked_out(-12, "5 / (top * 2 * 0)")


class Deep(ValueCase):
    def test_all_levels_in_all_functions(self):
        """Each exp has 12 levels, each with a chain of every strength: more within one another than Python lets."""
        begin, end = "(0 || 1 && 0 < 0 + 1 * ", ")"

        def deep(levels, inner):
            return begin * levels + inner + end * levels

        given = "fun f0(x) = " + deep(12, "x") + ";"
        for number in range(1, 6):
            given += f" fun f{number}(x) = " + deep(11, f"f{number - 1}(x)") + ";"
        self.assertLess(len(given), 2600)
        self.assert_value(1, deep(11, "f5(1)"), given)
        self.assert_value(0, deep(11, "f5(0)"), given)

    def test_long_chains(self):
        self.assert_value(1400, "+".join(["1"] * 1400))
        self.assert_value(1, "*".join(["1"] * 1400))
        self.assert_value(1, "&&".join(["1"] * 900))
        self.assert_value(0, "||".join(["0"] * 900))
        self.assert_value(3000, "sum(i in 1 .. 3000: 1)")
