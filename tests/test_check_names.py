"""check: names that must be known (fault 3) and names that must be free (fault 4)."""

from tests.helper import SheetCase

BLOCK = "sell zone 0 price 0 amount t: 1"


class Known(SheetCase):
    def test_const(self):
        self.assert_sound("const a = 1; const b = a; fun f() = a + b; desk d { let c = a; } desk e { let c = b; }")
        self.assert_fault(3, "const b = ^a; const a = 1;")
        self.assert_fault(3, "const a = ^a;")
        self.assert_fault(3, "fun f() = ^a; const a = 1;")
        self.assert_fault(3, "desk d { let b = ^a; } const a = 1;")

    def test_fun(self):
        self.assert_sound("fun f(x) = x; fun g(x) = f(f(x)); const a = g(1); desk d { let b = g(a); }")
        self.assert_fault(3, "fun f(x) = ^f(x);")
        self.assert_fault(3, "const a = ^f(1); fun f(x) = x;")
        self.assert_fault(3, "fun g() = ^f(); fun f() = 1;")
        self.assert_fault(3, "const a = ^nothing(1);")

    def test_functions_from_the_beginning(self):
        self.assert_sound("const a = min(1, 2) + max(1, 2) + abs(1);")

    def test_parameter(self):
        self.assert_sound("fun f(x, y) = x + y; fun g(y, x) = x;")
        self.assert_fault(3, "fun f(x) = x; const a = ^x;")
        self.assert_fault(3, "fun f(x) = x; fun g() = ^x;")
        self.assert_fault(3, "fun f(x) = ^y;")
        self.assert_fault(3, "fun f(x) = x; fun g(y) = ^x;")

    def test_let(self):
        self.assert_in_desk_sound("let x = 1; let y = x; if x { let z = x; for i in x .. y { let u = z; } } let z = y;")
        self.assert_in_desk_fault(3, "let x = ^x;")
        self.assert_in_desk_fault(3, "let y = ^x; let x = 1;")
        self.assert_in_desk_fault(3, "if 1 { let x = 1; } let y = ^x;")
        self.assert_in_desk_fault(3, "if 1 { let x = 1; } else { let y = ^x; }")
        self.assert_in_desk_fault(3, "if 1 { } else { let x = 1; } let y = ^x;")
        self.assert_in_desk_fault(3, "for i in 0 .. 1 { let x = 1; } let y = ^x;")
        self.assert_fault(3, "desk d { let x = 1; } desk e { let y = ^x; }")
        self.assert_fault(3, "desk d { let x = 1; } const y = ^x;")

    def test_for(self):
        self.assert_in_desk_sound("for i in 0 .. 1 { let x = i; for j in i .. 2 { let y = i + j; } }")
        self.assert_in_desk_fault(3, "for i in ^i .. 1 { }")
        self.assert_in_desk_fault(3, "for i in 0 .. ^i { }")
        self.assert_in_desk_fault(3, "for i in 0 .. 1 { } let x = ^i;")

    def test_sum(self):
        self.assert_exp_sound("sum(i in 0 .. 1: i + sum(j in i .. 2: i * j))")
        self.assert_exp_fault(3, "sum(i in ^i .. 1: i)")
        self.assert_exp_fault(3, "sum(i in 0 .. ^i: i)")
        self.assert_exp_fault(3, "sum(i in 0 .. 1: i) + ^i")
        self.assert_exp_fault(3, "sum(i in 0 .. 1: sum(j in 0 .. 1: 1) + ^j)")

    def test_a_blocks_amount(self):
        self.assert_in_desk_sound("block sell zone 0 price 0 amount t: t + abs(t) group 1;")
        self.assert_in_desk_fault(3, "block sell zone ^t price 0 amount t: t;")
        self.assert_in_desk_fault(3, "block sell zone 0 price ^t amount t: t;")
        self.assert_in_desk_fault(3, "block sell zone 0 price 0 amount t: t group ^t;")
        self.assert_in_desk_fault(3, "block sell zone 0 price 0 amount t: t; let x = ^t;")

    def test_every_exp_of_a_statement(self):
        self.assert_in_desk_fault(3, "sell zone ^x quarter 0 price 0 amount 0;")
        self.assert_in_desk_fault(3, "sell zone 0 quarter ^x price 0 amount 0;")
        self.assert_in_desk_fault(3, "sell zone 0 quarter 0 price ^x amount 0;")
        self.assert_in_desk_fault(3, "sell zone 0 quarter 0 price 0 to ^x amount 0;")
        self.assert_in_desk_fault(3, "sell zone 0 quarter 0 price 0 amount ^x;")
        self.assert_in_desk_fault(3, "if ^x { }")

    def test_desks_and_blocks_are_no_values(self):
        self.assert_fault(3, "desk d { let x = ^d; }")
        self.assert_fault(3, f"desk d {{ block b {BLOCK}; let x = ^b; }}")

    def test_this_is_told_before_what_follows(self):
        self.assert_exp_fault(3, "^x(1)")
        self.assert_exp_fault(3, "^x y")
        self.assert_exp_fault(3, "(" * 12 + "^x(")


class Free(SheetCase):
    def test_each_giving_of_a_name_against_each_known_name(self):
        givings = (
            "const ^{0} = 1;",
            "fun ^{0}() = 1;",
            "fun other(^{0}) = 1;",
            "const other = sum(^{0} in 0 .. 1: 1);",
            "desk other {{ let ^{0} = 1; }}",
            "desk other {{ for ^{0} in 0 .. 1 {{ }} }}",
            "desk other {{ block sell zone 0 price 0 amount ^{0}: 1; }}",
        )
        for giving in givings:
            for name in ("min", "max", "abs"):
                self.assert_fault(4, giving.format(name))
            self.assert_fault(4, "const a = 1; " + giving.format("a"))
            self.assert_fault(4, "fun f(x) = 1; " + giving.format("f"))
            self.assert_sound(("fun f(x) = 1; " + giving.format("x")).replace("^", ""))
            self.assert_sound(("desk x { let y = 1; } " + giving.format("y")).replace("^", ""))
            self.assert_sound(("desk x { block y " + BLOCK + "; } " + giving.format("x")).replace("^", ""))
            self.assert_sound(("desk x { block y " + BLOCK + "; } " + giving.format("y")).replace("^", ""))

    def test_each_giving_in_a_desk_against_each_known_name(self):
        givings = (
            "let ^v = 1;",
            "for ^v in 0 .. 1 { }",
            "block sell zone 0 price 0 amount ^v: 1;",
            "block b sell zone 0 price 0 amount ^v: 1;",
            "let other = sum(^v in 0 .. 1: 1);",
            "if sum(^v in 0 .. 1: 1) { }",
        )
        for giving in givings:
            self.assert_in_desk_fault(4, "let v = 1; " + giving)
            self.assert_in_desk_fault(4, "let v = 1; if v { " + giving + " }")
            self.assert_in_desk_fault(4, "let v = 1; if v { } else { " + giving + " }")
            self.assert_in_desk_fault(4, "for v in 0 .. 1 { " + giving + " }")
            self.assert_in_desk_fault(4, "for v in 0 .. 1 { if v { " + giving + " } }")
            free = giving.replace("^", "")
            self.assert_in_desk_sound("if 1 { let v = 1; } " + free)
            self.assert_in_desk_sound("if 1 { let v = 1; } else { " + free + " }")
            self.assert_in_desk_sound("for v in 0 .. 1 { } " + free)
            self.assert_in_desk_sound("for w in 0 .. 1 { let v = 1; } " + free)
            self.assert_in_desk_sound("block sell zone 0 price 0 amount v: 1; " + free)
            self.assert_in_desk_sound("let w = sum(v in 0 .. 1: v); " + free)
            self.assert_fault(4, "const v = 1; desk d { " + giving + " }")

    def test_parameters(self):
        self.assert_fault(4, "fun f(x, ^x) = 1;")
        self.assert_fault(4, "fun f(x, y, ^x) = 1;")
        self.assert_fault(4, "fun f(^f) = 1;")
        self.assert_fault(4, "fun f(x, ^f) = 1;")
        self.assert_fault(4, "fun f(x) = sum(^x in 0 .. 1: 1);")
        self.assert_fault(4, "fun f(x, ^min) = 1;")

    def test_sums_and_amounts(self):
        self.assert_exp_fault(4, "sum(i in 0 .. 1: sum(^i in 0 .. 1: 1))")
        self.assert_exp_sound("sum(i in sum(i in 0 .. 1: i) .. sum(i in 0 .. 1: i): i) + sum(i in 0 .. 1: i)")
        self.assert_in_desk_fault(4, "block sell zone 0 price 0 amount t: sum(^t in 0 .. 1: 1);")
        self.assert_in_desk_sound("block sell zone sum(t in 0 .. 1: t) price 0 amount t: t group sum(t in 0 .. 1: t);")

    def test_a_name_is_free_in_its_own_exp_until_it_is_known(self):
        self.assert_sound("const a = sum(a in 0 .. 1: a);")
        self.assert_sound("fun f(x) = sum(f in 0 .. x: f);")
        self.assert_in_desk_sound("let x = sum(x in 0 .. 1: x);")
        self.assert_in_desk_sound("for i in sum(i in 0 .. 1: i) .. sum(i in 0 .. 1: i) { let x = i; }")

    def test_names_of_desks_and_blocks_are_apart(self):
        blocks = f"block a {BLOCK}; block f {BLOCK}; block min {BLOCK};"
        self.assert_sound("const a = 1; fun f() = 1; desk a { " + blocks + " }")
        self.assert_sound("desk min { let x = 1; } desk x { let min2 = 1; }")
        self.assert_sound(f"desk d {{ block d {BLOCK}; let d = 1; block t {BLOCK}; }} const d = 1;")


class DesksAndBlocks(SheetCase):
    def test_desks(self):
        self.assert_sound("desk a { } desk b { }")
        self.assert_fault(4, "desk a { } desk ^a { }")
        self.assert_fault(4, "desk a { } desk b { } const c = 1; desk ^a { }")

    def test_blocks_of_one_desk(self):
        self.assert_in_desk_sound(f"block a {BLOCK}; block b {BLOCK}; block {BLOCK}; block {BLOCK};")
        self.assert_in_desk_fault(4, f"block a {BLOCK}; block ^a {BLOCK};")
        self.assert_in_desk_fault(4, f"if 1 {{ block a {BLOCK}; }} block ^a {BLOCK};")
        self.assert_in_desk_fault(4, f"if 1 {{ block a {BLOCK}; }} else {{ block ^a {BLOCK}; }}")
        self.assert_in_desk_fault(4, f"block a {BLOCK}; for i in 0 .. 1 {{ block b {BLOCK}; block ^a {BLOCK}; }}")

    def test_blocks_of_several_desks(self):
        self.assert_sound(f"desk d {{ block a {BLOCK}; }} desk e {{ block a {BLOCK}; }}")

    def test_under(self):
        a, under_a = f"block a {BLOCK};", f"block {BLOCK} under a;"
        self.assert_in_desk_sound(f"{a} {under_a} block c {BLOCK} under a; block {BLOCK} under c;")
        self.assert_in_desk_sound(f"if 1 {{ {a} }} else {{ {under_a} }} {under_a}")
        self.assert_in_desk_fault(3, f"block {BLOCK} under ^a;")
        self.assert_in_desk_fault(3, f"block {BLOCK} under ^a; block a {BLOCK};")
        self.assert_in_desk_fault(3, f"block a {BLOCK} under ^a;")
        self.assert_in_desk_fault(3, f"let a = 1; block {BLOCK} under ^a;")
        self.assert_in_desk_fault(3, f"block {BLOCK} under ^t;")
        self.assert_in_desk_fault(3, f"block {BLOCK} under ^d;")
        self.assert_in_desk_fault(3, f"block {BLOCK} under ^min;")
        self.assert_fault(3, f"desk d {{ block a {BLOCK}; }} desk e {{ block {BLOCK} under ^a; }}")
