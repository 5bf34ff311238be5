"""check: tokens, their places and wrong tokens (fault 1)."""

from ordersheets.sheets import check
from tests.helper import SheetCase, bytes_of


class Examples(SheetCase):
    def test_examples(self):
        self.assert_sound("const a = 2 + 3 * 4;")
        self.assertEqual(check(bytes_of("desk d { sell zone 0 quarter 0 price p amount 1; }")), [0, 3, 1, 38])
        self.assertEqual(check(bytes_of("desk d {")), [0, 2, 1, 9])
        self.assertEqual(check(bytes_of("const a = max(1);")), [0, 5, 1, 16])
        self.assertEqual(check(bytes_of("const a = 1 @")), [0, 1, 1, 13])
        self.assertEqual(check(bytes_of("const min = 1;")), [0, 4, 1, 7])
        self.assertEqual(check([]), [0, 0, 0, 0])

    def test_the_long_example(self):
        self.assert_sound("""
    fun cost(n) = 10 + 5 * n;
    desk north {
      for t in 0 .. 1 { sell zone 0 quarter t price cost(t) to cost(t) + 10 amount 100 * (t + 1); }
      block early buy zone 1 price 40 amount t: if t == 0 then 7 else 0;
      block buy zone 1 price 30 amount t: 3 under early group 2;
    }
""")


class BlanksAndComments(SheetCase):
    def test_blanks_stand_between_tokens(self):
        for blank in ("\t", "\n", "\r", " "):
            self.assert_sound(f"{blank}const{blank}a{blank}={blank}1{blank};{blank}")

    def test_no_other_byte_is_a_blank(self):
        for byte in (0, 8, 11, 12, 14, 31, 127, 160):
            self.assertEqual(check(bytes_of("const ") + [byte]), [0, 1, 1, 7])

    def test_no_blanks_are_needed_beside_signs(self):
        self.assert_sound("const a=1;fun f(x,y)=x+y;desk d{for i in 1..2{let b=f(a,-i);}}")

    def test_blanks_and_comments_part_tokens(self):
        self.assert_fault(2, "const a = 1 ^= 2;")
        self.assert_fault(2, "const a = 1 ^= = 2;")
        self.assert_fault(2, "const a = 1 ^2;")
        self.assert_fault(2, "^con st a = 1;")
        self.assert_fault(2, "const a#\n^b = 1;")

    def test_a_comment_goes_up_to_the_line_feed(self):
        self.assert_sound("# @ const \xff } \" ' \n const a = 1; # const\nconst b = a;")
        self.assert_sound("const a = 1;#\nconst b = a;")
        self.assert_fault(1, "# one @\n ^@")
        self.assert_fault(2, "# \r const\n^a")

    def test_a_comment_goes_up_to_the_end_of_the_text(self):
        self.assert_sound("#")
        self.assert_sound("const a = 1; # @ const")
        self.assert_fault(2, "const a = 1 # ;^")
        self.assert_sound("# a # b")


class Places(SheetCase):
    def test_columns_are_counted_anew_behind_a_line_feed(self):
        self.assert_fault(2, "\n^a")
        self.assert_fault(2, "\n\n  ^a")
        self.assert_fault(2, "const\n a\n  = 1\n   ^= 2;")
        self.assert_fault(3, "const a = 1;\nconst b = ^c;")
        self.assert_fault(2, "# comment\n# another\n ^;")

    def test_only_the_line_feed_ends_a_line(self):
        self.assert_fault(2, "\r\r\t ^a")
        self.assert_fault(2, "\r\n\r\n\r^a")

    def test_the_end_is_behind_the_last_byte(self):
        self.assert_fault(2, "const^")
        self.assert_fault(2, "const ^")
        self.assert_fault(2, "const\n^")
        self.assert_fault(2, "const\n\n  ^")
        self.assert_fault(2, "const # comment^")
        self.assert_fault(2, "const # comment\n^")

    def test_the_place_is_where_the_token_begins(self):
        self.assert_fault(4, "const long_name = 1;\nconst ^long_name = 2;")
        self.assert_fault(2, "const a = 1 >= 2 ^>= 3;")
        self.assert_fault(2, "const a ^== 1;")


class Words(SheetCase):
    def test_a_word_of_24_bytes(self):
        self.assert_sound("const " + "a" * 24 + " = 1;")
        self.assert_sound("const " + "_" + "9" * 23 + " = 1;")

    def test_a_word_of_25_bytes_is_wrong(self):
        self.assert_fault(1, "const ^" + "a" * 25 + " = 1;")
        self.assert_fault(1, "const ^a" + "9" * 24 + " = 1;")
        self.assert_fault(1, "const a = 1;\n ^" + "b" * 100)

    def test_all_letters_and_digits(self):
        for word in ("ABCDEFGHIJKLM", "NOPQRSTUVWXYZ", "abcdefghijklm", "nopqrstuvwxyz", "_", "__", "a0123456789"):
            self.assert_sound(f"const {word} = 1; const other = {word};")
        for byte in (64, 91, 94, 96, 127, 128, 255):
            self.assertEqual(check(bytes_of("const a") + [byte]), [0, 1, 1, 8])

    def test_words_that_differ_are_apart(self):
        letters = "ABCDEFGHIJKLMNOPQRSTUVWXYZ_abcdefghijklmnopqrstuvwxyz"
        self.assert_sound("".join(f"const {letter} = 1;" for letter in letters))
        self.assert_sound("".join(f"const x{digit} = 1;" for digit in "0123456789"))

    def test_great_and_small_letters_differ(self):
        self.assert_sound("const a = 1; const A = a; const Min = 2; const CONST = 3; const If = CONST;")
        self.assert_fault(3, "const a = 1; const b = ^A;")
        self.assert_fault(2, "^Const a = 1;")

    def test_the_longest_word_is_taken(self):
        self.assert_fault(2, "^constant a = 1;")
        self.assert_sound("const iff = 1; const in2 = iff; const sums = in2;")


class Numbers(SheetCase):
    def test_a_number_of_18_digits(self):
        self.assert_exp_sound("9" * 18)
        self.assert_exp_sound("0" * 18)

    def test_a_number_of_19_digits_is_wrong(self):
        self.assert_exp_fault(1, "^" + "9" * 19)
        self.assert_exp_fault(1, "^" + "0" * 19)
        self.assert_exp_fault(1, "1 + ^" + "1" * 300)

    def test_a_letter_right_behind_a_number_is_wrong(self):
        for letter in "aAzZ_":
            self.assert_exp_fault(1, f"^12{letter}")
            self.assert_exp_fault(1, f"1 + ^{'9' * 18}{letter}")
        self.assert_fault(1, "const ^1a = 1;")
        self.assert_exp_fault(2, "12 ^a")

    def test_a_sign_right_behind_a_number(self):
        self.assert_exp_sound("1+2")
        self.assert_exp_sound("sum(i in 1..2:i)")
        self.assert_fault(1, "const a = 1^.")
        self.assert_fault(1, "const a = 1^.5;")


class Signs(SheetCase):
    def test_each_sign(self):
        for sign in ("==", "!=", "<=", ">=", "&&", "||", "+", "-", "*", "/", "%", "<", ">"):
            self.assert_exp_sound(f"a{sign}b")
            self.assert_exp_sound(f"a {sign} b")
        for sign in ("+", "-", "*", "/", "%", "(", ")", "{", "}", ",", ";", ":", "=", "<", ">", "!",
                     "==", "!=", "<=", ">=", "&&", "||", ".."):
            self.assert_fault(2, f"^{sign}")

    def test_the_longest_sign_is_taken(self):
        self.assert_exp_sound("a<=b")
        self.assert_exp_fault(2, "a<^<b")
        self.assert_exp_fault(2, "a==^=b")
        self.assert_exp_fault(2, "a!=^=b")
        self.assert_exp_fault(2, "a^=b")
        self.assert_exp_sound("!!a")
        self.assert_exp_fault(2, "a^!b")
        self.assert_exp_fault(1, "sum(i in 1 ..^. 2: i)")

    def test_a_sign_as_the_last_byte(self):
        self.assert_sound("const a = 1;")
        self.assert_fault(2, "const a = 1 <^")
        self.assert_fault(2, "const a ^<=")

    def test_halves_of_signs_are_wrong(self):
        for half in ("&", "|", "."):
            self.assert_exp_fault(1, f"a ^{half} b")
            self.assert_exp_fault(1, f"a^{half}b")
            self.assert_fault(1, f"^{half}")
            self.assert_fault(1, f"const ^{half}")

    def test_all_other_bytes_are_wrong(self):
        others = "$'?@[\\]`~\"" + "".join(map(chr, range(127, 256)))
        for sign in others:
            self.assert_fault(1, f"const a = 1; ^{sign} const b = 2;")
            self.assert_fault(1, f"^{sign}")
        self.assertEqual(check(bytes_of("const ^")), [0, 1, 1, 7])


class WrongTokensFirst(SheetCase):
    def test_a_wrong_token_where_another_fault_would_stand_too(self):
        long_word = "x" * 25
        self.assert_fault(1, f"^{long_word}")
        self.assert_fault(1, "const ^1min = 1;")
        self.assert_fault(1, "const a = ^1b;")
        self.assert_fault(1, "fun f(a, b, c, d, e, g, ^@) = 1;")
        self.assert_fault(1, f"fun f(a, b, c, d, e, g, ^{long_word}) = 1;")
        self.assert_exp_fault(1, "max(1 ^@)")
        self.assert_exp_fault(1, "max(^@")
        self.assert_exp_fault(1, "max(1, 2 ^@")
        self.assert_exp_fault(1, "(" * 12 + "^&")
        self.assert_exp_fault(1, "max ^@")
        self.assert_in_desk_fault(1, "^@")
        self.assert_in_desk_fault(1, "block sell zone 0 price 0 amount t: 1 under ^@")

    def test_what_stands_behind_a_wrong_token_is_not_looked_at(self):
        self.assert_fault(1, "const a = ^@ b;")
        self.assert_fault(1, "^@ @")

    def test_a_fault_ahead_of_a_wrong_token_is_the_first(self):
        self.assert_fault(3, "const a = ^b @")
        self.assert_fault(4, "const ^max @")
        self.assert_fault(2, "^a @")
        self.assert_fault(5, "const a = max(1^) @")

    def test_a_minus_too_deep_ahead_of_a_wrong_token(self):
        self.assert_exp_fault(6, "(" * 12 + "^- @")
        self.assert_exp_fault(1, "(" * 11 + "- ^@")
