"""steps, and expand as far as it has 10000 of them: what takes one and when (-13)."""

from ordersheets.sheets import expand, steps
from tests.helper import EXAMPLE, MARKET, SheetCase, burn, bytes_of

# Each exp with the steps it takes; a, b and c are consts, f0 to f2 functions of 0 to 2 parameters.
GIVEN = "const a = 1; const b = 2; const c = 3; fun f0() = 5; fun f1(x) = x; fun f2(x, y) = x + y; "
GIVEN_STEPS = 6
EXPS = (
    (1, "7"), (1, "007"), (1, "a"),
    (1, "(7)"), (1, "(((a)))"),
    (2, "-5"), (2, "-a"), (2, "!0"), (3, "--5"), (3, "-!a"), (2, "-(5)"),
    (3, "1 + 2"), (3, "1 - 2"), (4, "1 + 2 - 3"), (6, "1 + 2 + 3 + 4 + 5"), (5, "(1 + 2) + 3"), (5, "1 + (2 + 3)"),
    (3, "1 * 2"), (3, "1 / 2"), (3, "1 % 2"), (5, "1 * 2 / 3 % 4"), (5, "(1 * 2) * 3"),
    (5, "1 + 2 * 3"), (7, "1 * 2 + 3 * 4"),
    (3, "1 == 2"), (3, "1 != 2"), (3, "1 <= 2"), (3, "1 >= 2"), (3, "1 < 2"), (3, "1 > 2"), (5, "(1 < 2) < 3"),
    (3, "1 && 2"), (4, "1 && 2 && 3"), (2, "0 && 2"), (2, "0 && 2 && 3"), (3, "1 && 0 && 3"), (3, "1 && 0"),
    (3, "0 || 2"), (4, "0 || 0 || 0"), (2, "1 || 2"), (2, "1 || 2 || 3"), (3, "0 || 1 || 3"), (3, "0 || 0"),
    (3, "if 1 then 2 else 3 + 4"), (5, "if 0 then 2 else 3 + 4"), (5, "if 1 then 2 + 3 else 4"),
    (3, "if 0 then 1 + 1 else 2"),
    (2, "abs(1)"), (3, "abs(-1)"), (3, "min(1, 2)"), (3, "max(1, 2)"), (5, "min(1, 2 + 3)"),
    (2, "f0()"), (3, "f1(1)"), (6, "f2(1, 2)"), (4, "f1(-1)"), (5, "f1(f1(1))"), (4, "f0() * 0"),
    (3, "sum(i in 1 .. 0: i)"), (5, "sum(i in 1 .. 1: i)"), (9, "sum(i in 1 .. 3: i)"),
    (3 + 2 * (1 + 5), "sum(i in 1 .. 2: i * i + 1)"), (5, "sum(i in -1 .. -2: i)"),
    (3 + 2 * (1 + 3 + 2 * 2), "sum(i in 1 .. 2: sum(j in 1 .. 2: j))"),
)


class Counts(SheetCase):
    def test_the_steps_burnt_by_these_tests(self):
        for count in (3, 4, 5, 9999, 10000):
            self.assertEqual(steps(*MARKET, bytes_of(burn(count))), [0, count])
            self.assert_orders([], burn(count))
        self.assert_refused(-13, burn(10001))

    def test_the_example(self):
        turn = 1 + 1 + 1 + 1 + 7 + 9 + 5
        self.assert_steps(3 + 2 * turn + (3 + 2 * 5) + (3 + 2 + 1), EXAMPLE)

    def test_what_takes_no_step(self):
        self.assert_steps(0, "")
        self.assert_steps(0, " # nothing")
        self.assert_steps(0, "fun f(x) = x + 1; desk d { } fun g() = f(2); desk e { }")

    def test_const(self):
        self.assert_steps(2, "const a = 1;")
        self.assert_steps(4, "const a = 1; const b = a;")

    def test_each_kind_of_exp(self):
        for count, exp in EXPS:
            self.assert_steps(GIVEN_STEPS + 1 + count, f"{GIVEN} const r = {exp};")

    def test_let(self):
        self.assert_steps(2, "desk d { let x = 1; }")
        self.assert_steps(6, "desk d { let x = 1; let y = x + x; }")

    def test_for(self):
        self.assert_steps(3, "desk d { for i in 1 .. 0 { let x = 1; } }")
        self.assert_steps(4, "desk d { for i in 1 .. 1 { } }")
        self.assert_steps(3 + 3 * 3, "desk d { for i in 1 .. 3 { let x = i; } }")
        self.assert_steps(5 + 3 * (1 + 2 + 2), "desk d { for i in 0 .. 1 + 1 { let x = i; let y = 2; } }")
        self.assert_steps(3 + 2 * (1 + 3 + 2), "desk d { for i in 1 .. 2 { for j in 1 .. 2 { } } }")

    def test_if(self):
        self.assert_steps(2, "desk d { if 1 { } }")
        self.assert_steps(2, "desk d { if 0 { let x = 1; } }")
        self.assert_steps(4, "desk d { if 1 { let x = 1; } else { let y = 1; let z = 1; } }")
        self.assert_steps(6, "desk d { if 0 { let x = 1; } else { let y = 1; let z = 1; } }")
        self.assert_steps(5, "desk d { if 1 { if -0 { } } }")

    def test_a_step_order(self):
        self.assert_steps(5, "desk d { sell zone 0 quarter 0 price 0 amount 0; }")
        self.assert_steps(5, "desk d { buy zone 0 quarter 0 price 0 amount 5; }")
        self.assert_steps(6, "desk d { sell zone 0 quarter 0 price 0 to 0 amount 5; }")
        self.assert_steps(1 + 5 * 3, "desk d { sell zone 0 + 0 quarter 0 + 0 price 0 + 0 to 0 + 0 amount 5 - 5; }")

    def test_a_block(self):
        for quarters in (1, 2, 3, 4):
            market = (1, quarters, 0, 100)
            self.assert_steps(3 + quarters, "desk d { block sell zone 0 price 0 amount t: 1; }", market)
            self.assert_steps(3 + quarters, "desk d { block b buy zone 0 price 0 amount t: 0; }", market)
            self.assert_steps(4 + 3 * quarters, "desk d { block sell zone 0 price 0 amount t: t + 1 group 3; }", market)
        parent = "block p sell zone 0 price 0 amount t: 1; "
        self.assert_steps(10, "desk d { " + parent + "block buy zone 0 price 0 amount t: 1 under p; }")

    def test_10000_steps_are_for_the_whole_sheet(self):
        self.assert_orders([], "desk d { for i in 1 .. 4997 { } } desk e { for i in 1 .. 4997 { } }")
        self.assert_refused(-13, "desk d { for i in 1 .. 4997 { } } desk e { for i in 1 .. 4998 { } }")
        self.assert_refused(-13, "const a = sum(i in 1 .. 5000: 1);")
        self.assert_refused(-13, "desk d { for i in 1 .. 999999999999999999 { } }")
        self.assert_refused(-13, "const a = sum(i in -999999999999999999 .. 999999999999999999: 0);")

    def test_each_expansion_has_all_its_steps(self):
        sheet = bytes_of(burn(10000))
        self.assertEqual(expand(*MARKET, sheet), [0, 0])
        self.assertEqual(expand(*MARKET, sheet), [0, 0])
        self.assertEqual(steps(*MARKET, sheet), [0, 10000])
        self.assertEqual(steps(*MARKET, sheet), [0, 10000])


class When(SheetCase):
    """The step comes ahead of the parts: these are refused after as many steps as have been taken by then."""

    def test_in_exps(self):
        ahead = 1
        divided = 3
        for count, exp in (
            (0, "1 / 0"), (1, "-(1 / 0)"), (1, "!(1 / 0)"), (1, "1 / 0 + 2"), (2, "2 + 1 / 0"), (1, "(1 / 0) * 2"),
            (2, "2 * (1 / 0)"), (1, "1 / 0 == 2"), (2, "2 < 1 / 0"), (1, "1 / 0 && 1"), (2, "1 && 1 / 0 && 1"),
            (1, "1 / 0 || 1"), (2, "0 || 1 / 0 || 1"), (1, "if 1 / 0 then 2 else 3"), (2, "if 1 then 1 / 0 else 3"),
            (2, "if 0 then 2 else 1 / 0"), (1, "abs(1 / 0)"), (1, "min(1 / 0, 2)"), (2, "max(2, 1 / 0)"),
            (1, "sum(i in 1 / 0 .. 2: 3)"), (2, "sum(i in 1 .. 1 / 0: 3)"), (4, "sum(i in 1 .. 2: 1 / 0)"),
        ):
            self.assert_refused_after(ahead + count + divided, -11, f"const r = {exp};")

    def test_in_functions(self):
        self.assert_refused_after(1 + 1 + 3, -11, "fun f(x) = x; const r = f(1 / 0);")
        self.assert_refused_after(1 + 2 + 3, -11, "fun f(x) = 1 / 0; const r = f(2);")
        self.assert_refused_after(1 + 1 + 3, -11, "fun f() = 1 / 0; const r = f();")

    def test_in_statements(self):
        for count, statement in (
            (1, "let x = 1 / 0;"), (1, "for i in 1 / 0 .. 2 { }"), (2, "for i in 1 .. 1 / 0 { }"),
            (5, "for i in 1 .. 2 { let x = 1 / 0; }"), (1, "if 1 / 0 { }"),
            (1, "sell zone 1 / 0 quarter 0 price 0 amount 0;"), (2, "sell zone 0 quarter 1 / 0 price 0 amount 0;"),
            (3, "sell zone 0 quarter 0 price 1 / 0 amount 0;"), (4, "sell zone 0 quarter 0 price 0 to 1 / 0 amount 0;"),
            (4, "sell zone 0 quarter 0 price 0 amount 1 / 0;"), (5, "buy zone 0 quarter 0 price 0 to 0 amount 1 / 0;"),
            (1, "block sell zone 1 / 0 price 0 amount t: 0;"), (2, "block sell zone 0 price 1 / 0 amount t: 0;"),
            (3, "block sell zone 0 price 0 amount t: 1 / 0;"),
            (3 + 5 + 2, "block sell zone 0 price 0 amount t: 0 / (1 - t);"),
            (5, "block sell zone 0 price 0 amount t: 0 group 1 / 0;"),
        ):
            self.assert_refused_after(count + 3, -11, "desk d { " + statement + " }")

    def test_the_greatest_is_asked_ahead_of_the_next_step(self):
        top = "const top = 999999999999999999 + 1; "
        self.assert_refused_after(4 + 1 + 1 + 2, -12, top + "const r = top + top + 1;")
        self.assert_refused_after(4 + 1 + 3 + 2 + 2, -12, top + "const r = sum(i in 1 .. 3: top);")

    def test_a_statement_that_is_refused_has_taken_its_steps(self):
        self.assert_refused_after(5, -14, "desk d { sell zone 9 quarter 0 price 0 amount 0; }")
        self.assert_refused_after(5, -14, "desk d { block sell zone 9 price 0 amount t: 0; }")
        never = "if 0 { block p sell zone 0 price 0 amount t: 1; } "
        self.assert_refused_after(2 + 5, -16, "desk d { " + never + "block buy zone 0 price 0 amount t: 1 under p; }")
        full = "for i in 1 .. 48 { sell zone 0 quarter 0 price 0 amount 1; } "
        self.assert_refused_after(3 + 48 * 6 + 5, -15, "desk d { " + full + "buy zone 0 quarter 0 price 0 amount 1; }")
