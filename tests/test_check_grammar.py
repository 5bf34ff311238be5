"""check: what can stand where by the grammar (fault 2) and functions' arguments (fault 5)."""

from tests.helper import KEY_WORDS, SheetCase

SELL = "sell zone 0 quarter 0 price 0 amount 0;"


class Tops(SheetCase):
    def test_sheets_without_tops(self):
        self.assert_sound("")
        self.assert_sound(" \n")

    def test_tops_in_any_order(self):
        self.assert_sound("desk d { } const a = 1; fun f() = a; desk e { } const b = f();")

    def test_only_tops_stand_on_top(self):
        for token in ("a", "1", ";", "}", "{", "let", "if", "sell", "block", "in", "sum"):
            self.assert_fault(2, f"^{token}")
            self.assert_fault(2, f"const a = 1; ^{token}")
            self.assert_fault(2, f"desk d {{ }} ^{token}")

    def test_const(self):
        self.assert_fault(2, "const ^= 1;")
        self.assert_fault(2, "const ^1 = 1;")
        self.assert_fault(2, "const a ^1;")
        self.assert_fault(2, "const a = ^;")
        self.assert_fault(2, "const a = 1 ^const b = 2;")
        self.assert_fault(2, "const a = 1^")
        self.assert_fault(2, "const a = 1; ^;")

    def test_fun(self):
        self.assert_sound("fun f() = 1;")
        self.assert_sound("fun f(x) = x;")
        self.assert_sound("fun f(x, y) = x;")
        self.assert_fault(2, "fun ^() = 1;")
        self.assert_fault(2, "fun f ^= 1;")
        self.assert_fault(2, "fun f(^,) = 1;")
        self.assert_fault(2, "fun f(x ^y) = 1;")
        self.assert_fault(2, "fun f(x,^) = 1;")
        self.assert_fault(2, "fun f(x, ^1) = 1;")
        self.assert_fault(2, "fun f(^1) = 1;")
        self.assert_fault(2, "fun f(x) ^1;")
        self.assert_fault(2, "fun f(x^")
        self.assert_fault(2, "fun f(^")
        self.assert_fault(2, "fun f() = ^;")
        self.assert_fault(2, "fun f() = 1^")

    def test_desk(self):
        self.assert_sound("desk d{}")
        self.assert_fault(2, "desk ^{ }")
        self.assert_fault(2, "desk d ^;")
        self.assert_fault(2, "desk d { } ^}")
        self.assert_fault(2, "desk d { ^desk e { } }")
        self.assert_fault(2, "desk d { ^const a = 1; }")
        self.assert_fault(2, "desk d { ^{ } }")
        self.assert_fault(2, "desk d { ^; }")
        self.assert_fault(2, "desk d { ^a }")
        self.assert_fault(2, f"desk d {{ {SELL}^")

    def test_key_words_are_no_names(self):
        for word in KEY_WORDS:
            self.assert_fault(2, f"const ^{word} = 1;")
            self.assert_fault(2, f"fun ^{word}() = 1;")
            self.assert_fault(2, f"fun f(x, ^{word}) = 1;")
            self.assert_fault(2, f"desk ^{word} {{ }}")
            self.assert_in_desk_fault(2, f"let ^{word} = 1;")
            self.assert_in_desk_fault(2, f"for ^{word} in 0 .. 1 {{ }}")
            self.assert_in_desk_fault(2, f"block sell zone 0 price 0 amount ^{word}: 1;")
            self.assert_in_desk_fault(2, f"block sell zone 0 price 0 amount t: 1 under ^{word};")
            self.assert_exp_fault(2, f"sum(^{word} in 0 .. 1: 1)")
        for word in KEY_WORDS:
            if word not in ("if", "sum"):
                self.assert_exp_fault(2, f"^{word}")
            if word not in ("sell", "buy"):
                self.assert_in_desk_fault(2, f"block ^{word} sell zone 0 price 0 amount t: 1;")

    def test_a_key_word_is_told_before_what_follows(self):
        self.assert_fault(2, "fun f(a, ^in @")


class Statements(SheetCase):
    def assert_in_desk_fault(self, number, marked):
        """A mark behind all the statements means that the sheet breaks off there."""
        if marked.endswith("^"):
            self.assert_fault(number, "desk d { " + marked)
        else:
            super().assert_in_desk_fault(number, marked)

    def test_let(self):
        self.assert_in_desk_sound("let x = 1;")
        self.assert_in_desk_fault(2, "let ^= 1;")
        self.assert_in_desk_fault(2, "let x ^1;")
        self.assert_in_desk_fault(2, "let x = ^;")
        self.assert_in_desk_fault(2, "let x = 1 ^let y = 2;")
        self.assert_in_desk_fault(2, "let x = 1 ^")

    def test_for(self):
        self.assert_in_desk_sound("for x in 1 .. 2 { }")
        self.assert_in_desk_sound("for x in if 1 then 2 else 3 .. if 1 then 2 else 3 { let y = x; }")
        self.assert_in_desk_fault(2, "for ^in 1 .. 2 { }")
        self.assert_in_desk_fault(2, "for x ^1 .. 2 { }")
        self.assert_in_desk_fault(2, "for x in ^.. 2 { }")
        self.assert_in_desk_fault(2, "for x in 1 ^2 { }")
        self.assert_in_desk_fault(2, "for x in 1 .. ^{ }")
        self.assert_in_desk_fault(2, "for x in 1 .. 2 ^;")
        self.assert_in_desk_fault(2, "for x in 1 .. 2 { ^")
        self.assert_in_desk_fault(2, "for x in 1 .. 2 { } ^else { }")

    def test_if(self):
        self.assert_in_desk_sound("if 1 { }")
        self.assert_in_desk_sound("if 1 { } else { }")
        self.assert_in_desk_sound("if if 1 then 2 else 3 { }")
        self.assert_in_desk_sound(f"if 1 {{ {SELL} }} else {{ {SELL} }} {SELL}")
        self.assert_in_desk_fault(2, "if ^{ }")
        self.assert_in_desk_fault(2, "if 1 ^;")
        self.assert_in_desk_fault(2, "if 1 ^then { }")
        self.assert_in_desk_fault(2, "if 1 { } else ^if 1 { }")
        self.assert_in_desk_fault(2, "if 1 { } else { } ^else { }")
        self.assert_in_desk_fault(2, "^else { }")
        self.assert_in_desk_fault(2, "if 1 { } else ^")
        self.assert_in_desk_fault(2, "if 1 { ^")

    def test_steps(self):
        for side in ("sell", "buy"):
            self.assert_in_desk_sound(f"{side} zone 0 quarter 1 price 2 amount 3;")
            self.assert_in_desk_sound(f"{side} zone 0 quarter 1 price 2 to 4 amount 3;")
            self.assert_in_desk_fault(2, f"{side} ^quarter 1 price 2 amount 3;")
            self.assert_in_desk_fault(2, f"{side} zone ^quarter 1 price 2 amount 3;")
            self.assert_in_desk_fault(2, f"{side} zone 0 ^price 2 amount 3;")
            self.assert_in_desk_fault(2, f"{side} zone 0 quarter 1 ^to 2 amount 3;")
            self.assert_in_desk_fault(2, f"{side} zone 0 quarter 1 ^amount 3;")
            self.assert_in_desk_fault(2, f"{side} zone 0 quarter 1 price 2 ^;")
            self.assert_in_desk_fault(2, f"{side} zone 0 quarter 1 price 2 to ^amount 3;")
            self.assert_in_desk_fault(2, f"{side} zone 0 quarter 1 price 2 to 3 ^to 4 amount 3;")
            self.assert_in_desk_fault(2, f"{side} zone 0 quarter 1 price 2 amount ^;")
            self.assert_in_desk_fault(2, f"{side} zone 0 quarter 1 price 2 amount 3 ^")
            self.assert_in_desk_fault(2, f"{side} zone 0 quarter 1 price 2 amount 3 ^group 1;")
            self.assert_in_desk_fault(2, f"{side} ^{side} zone 0 quarter 1 price 2 amount 3;")
            self.assert_in_desk_fault(2, f"{side} ^x zone 0 quarter 1 price 2 amount 3;")

    def test_blocks(self):
        for side in ("sell", "buy"):
            for name in ("", "b "):
                begin = f"block {name}{side} zone 0 price 1 amount"
                self.assert_in_desk_sound(f"{begin} t: 2;")
                self.assert_in_desk_sound(f"{begin} t: t group 3;")
                self.assert_in_desk_sound(f"block p buy zone 0 price 0 amount t: t; {begin} t: t under p;")
                self.assert_in_desk_sound(f"block p buy zone 0 price 0 amount t: t; {begin} t: t under p group 3;")
                self.assert_in_desk_fault(2, f"{begin} ^: 2;")
                self.assert_in_desk_fault(2, f"{begin} ^2;")
                self.assert_in_desk_fault(2, f"{begin} t ^2;")
                self.assert_in_desk_fault(2, f"{begin} t: ^;")
                self.assert_in_desk_fault(2, f"{begin} t: ^under p;")
                self.assert_in_desk_fault(2, f"{begin} t: 1 ^")
                self.assert_in_desk_fault(2, f"{begin} t: 1 under ^;")
                self.assert_in_desk_fault(2, f"{begin} t: 1 under ^1;")
                self.assert_in_desk_fault(2, f"{begin} t: 1 under ^")
                self.assert_in_desk_fault(2, f"{begin} t: 1 group ^;")
                self.assert_in_desk_fault(2, f"{begin} t: 1 group 1 ^under p;")
                self.assert_in_desk_fault(2, f"{begin} t: 1 group 1 ^group 1;")
                self.assert_in_desk_fault(2, f"block {name}{side} zone 0 ^quarter 1 price 2 amount t: 3;")
                self.assert_in_desk_fault(2, f"block {name}{side} zone 0 price 2 ^to 3 amount t: 3;")
                self.assert_in_desk_fault(2, f"block {name}{side} ^price 2 amount t: 3;")
        self.assert_in_desk_fault(2, "block ^zone 0 price 1 amount t: 1;")
        self.assert_in_desk_fault(2, "block b ^zone 0 price 1 amount t: 1;")
        self.assert_in_desk_fault(2, "block b ^c sell zone 0 price 1 amount t: 1;")
        self.assert_in_desk_fault(2, "block ^1 sell zone 0 price 1 amount t: 1;")


class Exps(SheetCase):
    def test_operators(self):
        for sign in ("+", "-", "*", "/", "%", "&&", "||"):
            self.assert_exp_sound(f"a {sign} b {sign} c")
            self.assert_exp_fault(2, f"a {sign} ^")
        for sign in ("==", "!=", "<=", ">=", "<", ">"):
            self.assert_exp_sound(f"a {sign} b")
            self.assert_exp_fault(2, f"a {sign} b ^{sign} c")
            self.assert_exp_sound(f"(a {sign} b) {sign} c")
            self.assert_exp_sound(f"a {sign} b && b {sign} c")
        for sign in ("+", "*", "/", "%", "&&", "||", "==", "<", ">="):
            self.assert_exp_fault(2, f"^{sign} a")
        self.assert_exp_sound("a || b && c == a + b * -c")
        self.assert_exp_sound("- a * - b")
        self.assert_exp_sound("a - - b")
        self.assert_exp_fault(2, "a ^! b")
        self.assert_exp_fault(2, "a ^b")
        self.assert_exp_fault(2, "a ^1")
        self.assert_exp_fault(2, "1 ^(2)")
        self.assert_exp_fault(2, "- ^")
        self.assert_exp_fault(2, "! ^* a")

    def test_brackets(self):
        self.assert_exp_sound("((a + b) * (c))")
        self.assert_exp_fault(2, "(^)")
        self.assert_exp_fault(2, "(a^")
        self.assert_exp_fault(2, "a^)")
        self.assert_exp_fault(2, "(a^, b)")

    def test_if(self):
        self.assert_exp_sound("if a then b else c")
        self.assert_exp_sound("if a then if b then 1 else 2 else if c then 3 else 4")
        self.assert_exp_sound("if if a then b else c then 1 else 2")
        self.assert_exp_sound("1 + (if a then b else c)")
        self.assert_exp_fault(2, "1 + ^if a then b else c")
        self.assert_exp_fault(2, "-^if a then b else c")
        self.assert_exp_fault(2, "if ^then b else c")
        self.assert_exp_fault(2, "if a ^b else c")
        self.assert_exp_fault(2, "if a then ^else c")
        self.assert_exp_fault(2, "if a then b ^")
        self.assert_exp_fault(2, "if a then b else ^")
        self.assert_exp_fault(2, "if a then b else c ^else c")

    def test_sum(self):
        self.assert_exp_sound("sum(i in a .. b: i)")
        self.assert_exp_sound("sum(i in if a then 1 else 2 .. if a then 1 else 2: if i then 1 else 2)")
        self.assert_exp_fault(2, "sum ^i in a .. b: i)")
        self.assert_exp_fault(2, "sum(^1 in a .. b: i)")
        self.assert_exp_fault(2, "sum(^)")
        self.assert_exp_fault(2, "sum(i ^a .. b: i)")
        self.assert_exp_fault(2, "sum(i in ^.. b: i)")
        self.assert_exp_fault(2, "sum(i in a ^: i)")
        self.assert_exp_fault(2, "sum(i in a ^, b: i)")
        self.assert_exp_fault(2, "sum(i in a .. ^: i)")
        self.assert_exp_fault(2, "sum(i in a .. b^)")
        self.assert_exp_fault(2, "sum(i in a .. b: ^)")
        self.assert_exp_fault(2, "sum(i in a .. b: i^, i)")
        self.assert_exp_fault(2, "sum(i in a .. b: i^")

    def test_functions_names_are_followed_by_their_arguments(self):
        self.assert_exp_fault(2, "min^")
        self.assert_exp_fault(2, "min ^+ 1")
        self.assert_exp_fault(2, "1 + abs^)")
        self.assert_fault(2, "fun f() = 1; const a = f^;")

    def test_a_values_name_is_followed_by_no_arguments(self):
        self.assert_exp_fault(2, "a^(1)")
        self.assert_exp_fault(2, "a^()")


class Arguments(SheetCase):
    def test_right_counts(self):
        self.assert_exp_sound("min(a, b)")
        self.assert_exp_sound("max(a, b)")
        self.assert_exp_sound("abs(a)")
        self.assert_exp_sound("abs(if a then b else c)")
        for count in range(7):
            parameters = ", ".join(f"p{number}" for number in range(count))
            arguments = ", ".join("1" for number in range(count))
            self.assert_sound(f"fun f({parameters}) = 1; const a = f({arguments});")

    def test_an_argument_is_missing(self):
        self.assert_exp_fault(5, "min(^)")
        self.assert_exp_fault(5, "min(a^)")
        self.assert_exp_fault(5, "max(a,^)")
        self.assert_exp_fault(5, "abs(^)")
        self.assert_fault(5, "fun f(x, y, z) = x; const a = f(1, 2^);")
        self.assert_fault(5, "fun f(x, y, z) = x; const a = f(1, 2, ^);")
        self.assert_fault(5, "fun f(x) = x; const a = f(^);")
        self.assert_exp_fault(5, "min(abs(1^, 2), 3)")
        self.assert_exp_fault(5, "min(max(1, 2)^)")

    def test_one_too_many(self):
        self.assert_exp_fault(5, "min(a, b^, c)")
        self.assert_exp_fault(5, "abs(a^,)")
        self.assert_exp_fault(5, "abs(a^, b)")
        self.assert_fault(5, "fun f(x) = x; const a = f(1^, 2);")

    def test_other_tokens_there_are_fault_2(self):
        self.assert_exp_fault(2, "min(^, a)")
        self.assert_exp_fault(2, "min(a ^b)")
        self.assert_exp_fault(2, "min(a^; b)")
        self.assert_exp_fault(2, "min(a, ^, b)")
        self.assert_exp_fault(2, "min(a, b ^c)")
        self.assert_exp_fault(2, "min(a, b^")
        self.assert_exp_fault(2, "abs(a^")
        self.assert_exp_fault(2, "min(a + ^)")
        self.assert_exp_fault(2, "min(a, -^)")
        self.assert_exp_fault(2, "abs((^))")
        self.assert_exp_fault(2, "abs(if ^)")

    def test_a_function_without_parameters(self):
        self.assert_sound("fun f() = 1; const a = f() + f ( );")
        self.assert_fault(2, "fun f() = 1; const a = f(^1);")
        self.assert_fault(2, "fun f() = 1; const a = f(^,);")
        self.assert_fault(2, "fun f() = 1; const a = f(^a);")
        self.assert_fault(2, "fun f() = 1; const a = f(^")
        self.assert_fault(1, "fun f() = 1; const a = f(^@")
