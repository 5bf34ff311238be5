"""show: the one form of a sheet."""

from ordersheets.sheets import show
from tests.helper import SheetCase, bytes_of, form_of


class Examples(SheetCase):
    def test_examples(self):
        self.assertEqual(show(bytes_of("const a = 2 + 3 * 4;")), [0, 21] + bytes_of("const a = 2 + 3 * 4;\n"))
        self.assertEqual(show([]), [0, 0])
        for faulty in ("desk d { sell zone 0 quarter 0 price p amount 1; }", "desk d {", "const a = max(1);",
                       "const a = 1 @", "const min = 1;"):
            self.assertEqual(show(bytes_of(faulty)), [-3])

    def test_the_long_example(self):
        self.assert_form(
            "fun cost(n) = 10 + 5 * n;\n"
            "desk north {\n"
            "  for t in 0 .. 1 {\n"
            "    sell zone 0 quarter t price cost(t) to cost(t) + 10 amount 100 * (t + 1);\n"
            "  }\n"
            "  block early buy zone 1 price 40 amount t: if t == 0 then 7 else 0;\n"
            "  block buy zone 1 price 30 amount t: 3 under early group 2;\n"
            "}\n",
            """
    fun cost(n) = 10 + 5 * n;
    desk north {
      for t in 0 .. 1 { sell zone 0 quarter t price cost(t) to cost(t) + 10 amount 100 * (t + 1); }
      block early buy zone 1 price 40 amount t: if t == 0 then 7 else 0;
      block buy zone 1 price 30 amount t: 3 under early group 2;
    }
""")

    def test_each_fault_is_refused(self):
        six = "".join(f"fun f{number}() = 1; " for number in range(6))
        for faulty in ("@", ";", "const a = b;", "const a = 1; const a = 2;", "const a = abs();",
                       "const a = " + "(" * 13 + "1" + ")" * 13 + ";", six + "fun f6() = 1;"):
            self.assertEqual(show(bytes_of(faulty)), [-3])


class Tops(SheetCase):
    def test_const(self):
        self.assert_form("const a = 1;\n", "const\ta=1;")

    def test_fun(self):
        self.assert_form("fun f() = 1;\n", "fun f ( ) = 1 ;")
        self.assert_form("fun f(x) = x;\n", "fun f(x)=x;")
        self.assert_form("fun f(x, y) = x;\n", "fun f(x,y)=x;")
        self.assert_form("fun f(a, b, c, d, e, g) = a;\n", "fun f ( a , b , c , d , e , g ) = a;")

    def test_desk(self):
        self.assert_form("desk d {\n}\n", "desk d{}")
        self.assert_form("desk d {\n  let x = 1;\n}\n", "desk d{let x=1;}")

    def test_tops_keep_their_order(self):
        self.assert_form(
            "desk d {\n}\nconst b = 1;\nfun f() = b;\ndesk a {\n}\nconst a = f();\n",
            "desk d{}const b=1;fun f()=b;desk a{}const a=f();")

    def test_comments_and_blanks_go(self):
        self.assert_form("const a = 1 + 2;\n", "# first\nconst # name\n a = 1\r\n\r\n + # and\n 2 ; # last")

    def test_names_stay_as_they_are(self):
        self.assert_form("const _aZ09_ = 1;\nconst AZ_az = _aZ09_;\n", "const _aZ09_=1;const AZ_az=_aZ09_;")
        for letter in "ABCDEFGHIJKLMNOPQRSTUVWXYZ_abcdefghijklmnopqrstuvwxyz":
            self.assert_form(f"const {letter} = 1;\n", f"const {letter}=1;")
        self.assert_form("const x0123456789 = 1;\n", "const x0123456789=1;")
        long_name = "Q" * 24
        self.assert_form(f"const {long_name} = 1;\n", f"const {long_name}=1;")

    def test_names_that_are_like_words_of_the_program(self):
        self.assert_form("const rest = 7 % 2;\nconst end = rest % 2;\n", "const rest=7%2;const end=rest%2;")


class Statements(SheetCase):
    def test_let(self):
        self.assert_statement_form(["let x = 1;", "let y = x;"], "let x=1;let y=x;")

    def test_for(self):
        self.assert_statement_form(["for i in 0 .. 1 {", "}"], "for i in 0..1{}")
        self.assert_statement_form(["for i in 0 .. 1 {", "  let x = i;", "  let y = x;", "}"],
                                   "for i in 0..1{let x=i;let y=x;}")
        self.assert_statement_form(["for i in if 1 then 2 else 3 .. 4 || 5 {", "}"],
                                   "for i in (if 1 then 2 else 3)..(4||5){}")

    def test_if(self):
        self.assert_statement_form(["if 1 {", "}"], "if 1{}")
        self.assert_statement_form(["if 1 {", "  let x = 1;", "}"], "if(1){let x=1;}")
        self.assert_statement_form(["if 1 {", "  let x = 1;", "} else {", "  let y = 2;", "  let z = 3;", "}"],
                                   "if 1{let x=1;}else{let y=2;let z=3;}")
        self.assert_statement_form(["if 1 {", "} else {", "  let y = 2;", "}"], "if 1{}else{let y=2;}")
        self.assert_statement_form(["if if 1 then 0 else 2 {", "}"], "if if 1 then 0 else 2{}")

    def test_an_else_without_statements_goes(self):
        self.assert_statement_form(["if 1 {", "}"], "if 1 { } else { }")
        self.assert_statement_form(["if 1 {", "  let x = 1;", "}"], "if 1 { let x = 1; } else { # nothing\n }")
        self.assert_statement_form(["if 1 {", "  if 2 {", "  }", "} else {", "  if 3 {", "  }", "}"],
                                   "if 1 { if 2 { } else { } } else { if 3 { } else { } }")

    def test_step(self):
        for side in ("sell", "buy"):
            self.assert_statement_form([f"{side} zone 0 quarter 1 price 2 amount 3;"],
                                       f"{side} zone(0)quarter(1)price(2)amount(3);")
            self.assert_statement_form([f"{side} zone 0 quarter 1 price 2 to 4 amount 3;"],
                                       f"{side} zone(0)quarter(1)price(2)to(4)amount(3);")

    def test_block(self):
        parent = "block p buy zone 0 price 0 amount t: 0;"
        for side in ("sell", "buy"):
            for name in ("", "b "):
                for under in ("", " under p"):
                    for group in ("", " group 3"):
                        block = f"block {name}{side} zone 1 price 2 amount t: t + 1{under}{group};"
                        self.assert_statement_form([parent, block], parent + block)
                        spread = block.replace(" ", "  ").replace(":", "\t:\t").replace(";", " ;")
                        self.assert_statement_form([parent, block], parent + spread)

    def test_every_place_of_a_statement_allows_any_strength(self):
        weak = "if 1 then 2 else 3"
        either = "1 || 2"
        for exp in (weak, either):
            forms = (
                f"let x = {exp};",
                f"sell zone {exp} quarter {exp} price {exp} to {exp} amount {exp};",
                f"block b buy zone {exp} price {exp} amount t: {exp} group {exp};",
            )
            for form in forms:
                self.assert_statement_form([form], form.replace(exp, f"(({exp}))"))
            self.assert_form(f"const a = {exp};\nfun f() = {exp};\n", f"const a=({exp});fun f()=({exp});")

    def test_each_level_of_braces_is_set_in(self):
        self.assert_form(
            "desk d {\n"
            "  if 1 {\n"
            "    for i in 0 .. 1 {\n"
            "      if 2 {\n"
            "        if 3 {\n"
            "          if 4 {\n"
            "            if 5 {\n"
            "              let x = i;\n"
            "            }\n"
            "          }\n"
            "        }\n"
            "      } else {\n"
            "        let y = 1;\n"
            "      }\n"
            "    }\n"
            "  }\n"
            "  let z = 0;\n"
            "}\n"
            "const a = 1;\n",
            "desk d { if 1 { for i in 0 .. 1 { if 2 { if 3 { if 4 { if 5 { let x = i; } } } } else { let y = 1; } } }"
            " let z = 0; } const a = 1;")


class Exps(SheetCase):
    def test_numbers_have_no_zeros_in_front(self):
        self.assert_exp_form("0", "0")
        self.assert_exp_form("0", "000")
        self.assert_exp_form("7", "007")
        self.assert_exp_form("100", "0100")
        self.assert_exp_form("1", "0" * 17 + "1")
        self.assert_exp_form("9" * 18, "9" * 18)
        self.assert_exp_form("123456789012345678", "123456789012345678")
        self.assert_exp_form("-0", "-00")

    def test_all_forms(self):
        self.assert_exp_form("a", " a ")
        self.assert_exp_form("f()", "f ( )")
        self.assert_exp_form("abs(a)", "abs( a )")
        self.assert_exp_form("min(a, b)", "min(a,b)")
        self.assert_exp_form("-a", "- a")
        self.assert_exp_form("!a", "! a")
        self.assert_exp_form("if a then b else c", "if(a)then(b)else(c)")
        self.assert_exp_form("sum(i in a .. b: i)", "sum ( i in a..b:i )")
        for sign in ("+", "-", "*", "/", "%", "&&", "||", "==", "!=", "<=", ">=", "<", ">"):
            self.assert_exp_form(f"a {sign} b", f"a{sign}b")
            self.assert_exp_form(f"a {sign} b", f"a\n{sign}\tb")
        for sign in ("+", "-", "*", "/", "%", "&&", "||"):
            self.assert_exp_form(f"a {sign} b {sign} c", f"a{sign}b{sign}c")
        self.assert_exp_form("a + b - c + 1 - 2", "a+b-c+1-2")
        self.assert_exp_form("a * b / c % 1 * 2", "a*b/c%1*2")

    def test_signs_before_a_unary(self):
        self.assert_exp_form("--1", "- - 1")
        self.assert_exp_form("--1", "-(-1)")
        self.assert_exp_form("!-!a", "! - ! a")
        self.assert_exp_form("-5", "-(5)")
        self.assert_exp_form("a - -b", "a--b")
        self.assert_exp_form("a - -1", "a - (-1)")
        self.assert_exp_form("-a * -b", "(-a)*(-b)")
        self.assert_exp_form("-(a * b)", "-(a*b)")
        self.assert_exp_form("-a * b", "-a*b")

    def test_brackets_around_the_strongest_go(self):
        for exp in ("1", "a", "f()", "abs(a)", "sum(i in a .. b: i)"):
            for outer in ("{0} || a", "a && {0}", "{0} == a", "a < {0}", "{0} + a", "a - {0}", "{0} * a", "a % {0}",
                          "-{0}", "!{0}", "abs({0})", "min(a, {0})", "if {0} then {0} else {0}",
                          "sum(j in {0} .. {0}: {0})"):
                self.assert_exp_form(outer.format(exp), outer.format(f"(({exp}))"))
            self.assert_exp_form(exp, f"((({exp})))")

    def test_brackets_by_strength_and_place(self):
        strengths = (
            (0, "if a then b else c"), (0, "a || b"), (1, "a && b"), (2, "a == b"), (2, "a < b"), (2, "a >= b"),
            (3, "a + b"), (3, "a - b"), (4, "a * b"), (4, "a / b"), (4, "a % b"), (5, "-a"), (5, "!a"), (5, "-1"),
        )
        places = [(0, "abs({0})"), (0, "min({0}, a)"), (0, "min(a, {0})"), (0, "if {0} then a else b"),
                  (0, "if a then {0} else b"), (0, "if a then b else {0}"), (0, "sum(i in {0} .. a: a)"),
                  (0, "sum(i in a .. {0}: a)"), (0, "sum(i in a .. b: {0})"), (5, "-{0}"), (5, "!{0}")]
        for allowed, signs in ((1, ["||"]), (2, ["&&"]), (4, ["+", "-"]), (5, ["*", "/", "%"])):
            for sign in signs:
                places.append((allowed, "{0} " + sign + " c"))
                places.append((allowed, "c " + sign + " {0}"))
                places.append((allowed, "c " + sign + " {0} " + sign + " c"))
        for sign in ("==", "!=", "<=", ">=", "<", ">"):
            places.append((3, "{0} " + sign + " c"))
            places.append((3, "c " + sign + " {0}"))
        for allowed, place in places:
            for strength, exp in strengths:
                bracketed = place.format(f"({exp})")
                kept = bracketed if strength < allowed else place.format(exp)
                self.assert_exp_form(kept, bracketed)

    def test_brackets_of_the_document(self):
        self.assert_exp_form("(a + b) + c", "(a + b) + c")
        self.assert_exp_form("a + b + c", "a + b + c")
        self.assert_exp_form("a + (b + c)", "a + (b + c)")
        self.assert_exp_form("(a * b) * c", "((a * b)) * c")
        self.assert_exp_form("a * b + c", "(a * b) + c")
        self.assert_exp_form("(a + b) * c", "(a + b) * c")
        self.assert_exp_form("(a || b) || c", "(a || b) || c")
        self.assert_exp_form("(a && b) && c", "(a && b) && c")
        self.assert_exp_form("(a == b) == c", "(a == b) == c")

    def test_an_else_takes_all_that_follows(self):
        self.assert_exp_form("if a then b else c + 1", "if a then b else c + 1")
        self.assert_exp_form("if a then b else c + 1", "if a then b else (c + 1)")
        self.assert_exp_form("(if a then b else c) + 1", "(if a then b else c) + 1")
        self.assert_exp_form("if a then if b then 1 else 2 else 3", "if a then (if b then 1 else 2) else 3")
        self.assert_exp_form("if if a then b else c then 1 else 2", "if (if a then b else c) then 1 else 2")

    def test_deep_exps(self):
        self.assert_exp_form("a", "(" * 12 + "a" + ")" * 12)
        self.assert_exp_form("-" * 12 + "a", "-" * 12 + "a")
        self.assert_exp_form("-" * 13 + "1", "-" * 13 + "1")
        right = "a" + " - (a" * 12 + " - b" + ")" * 12
        self.assert_exp_form(right, right)


class Rows(SheetCase):
    def test_the_row_tells_its_length(self):
        for text in ("", "const a = 1;", "desk d { }", "const a = 1; desk d { let b = a; }"):
            answer = show(bytes_of(text))
            self.assertEqual(answer[0], 0)
            self.assertEqual(answer[1], len(answer) - 2)

    def test_a_form_may_be_longer_than_a_text(self):
        text = "desk d{" + "if 1{" * 5 + "if 1{}" * 493 + "}" * 6
        self.assertLessEqual(len(text), 3000)
        form = form_of(text)
        self.assertEqual(form.count("\n"), 2 * (1 + 5 + 493))
        self.assertGreater(len(form), 3000)
        self.assertLess(len(form), 20000 - 2)
