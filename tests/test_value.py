"""value: a text that is an exp and nothing else."""

import random
import unittest

from ordersheets.sheets import check, value
from tests.helper import KEY_WORDS, MARKET, bytes_of
from tests.test_random_expand import Refused, Second, Trader
from tests.test_random_sheets import spread

GREATEST = 10 ** 18
TOP = "(999999999999999999 + 1)"
BOTTOM = "(-999999999999999999 - 1)"

# What opens a level around an exp.
LEVELS = (("(", ")"), ("abs(", ")"), ("min(", ", 1)"), ("max(1, ", ")"), ("sum(i in 1 .. 1: ", ")"),
          ("sum(i in ", " .. 1: 1)"), ("sum(i in 1 .. ", ": 1)"), ("if ", " then 1 else 1"), ("if 1 then ", " else 1"),
          ("if 0 then 1 else ", ""), ("-", ""), ("!", ""))


class ValueCase(unittest.TestCase):
    def assert_answer(self, answer, text):
        self.assertEqual(value(bytes_of(text)), answer, text)

    def assert_value(self, number, text):
        self.assert_answer([0, number], text)

    def assert_refused(self, number, text):
        self.assert_answer([number], text)

    def assert_faults(self, *texts):
        for text in texts:
            self.assert_refused(-3, text)


class Values(ValueCase):
    def test_the_examples(self):
        self.assert_value(1, "7 - 2 * 3 == 1 && !0")
        self.assert_value(-4, "-7 / 2")
        self.assert_value(30, "sum(i in 1 .. 4: i * i)")

    def test_numbers(self):
        self.assert_value(0, "0")
        self.assert_value(7, "007")
        self.assert_value(999999999999999999, "9" * 18)
        self.assert_value(-999999999999999999, "-" + "9" * 18)
        self.assert_value(0, "-0")

    def test_signs_of_numbers(self):
        self.assert_value(5, "2 + 3")
        self.assert_value(-1, "2 - 3")
        self.assert_value(-6, "2 * -3")
        self.assert_value(3, "7 / 2")
        self.assert_value(-4, "7 / -2")
        self.assert_value(1, "-7 % 2")
        self.assert_value(-1, "7 % -2")
        self.assert_value(-4, "1 - 2 - 3")
        self.assert_value(14, "2 + 3 * 4")
        self.assert_value(20, "(2 + 3) * 4")

    def test_signs_before_a_unary(self):
        self.assert_value(5, "--5")
        self.assert_value(1, "!0")
        self.assert_value(0, "!7")
        self.assert_value(-1, "-!0")
        self.assert_value(1, "!!-7")

    def test_comparisons(self):
        for sign, answers in (("==", (0, 1, 0)), ("!=", (1, 0, 1)), ("<=", (1, 1, 0)), (">=", (0, 1, 1)),
                              ("<", (1, 0, 0)), (">", (0, 0, 1))):
            for left, answer in zip((1, 2, 3), answers):
                self.assert_value(answer, f"{left} {sign} 2")

    def test_both_and_either(self):
        self.assert_value(1, "2 && -3")
        self.assert_value(0, "2 && 0 && 1 / 0")
        self.assert_value(1, "0 || 5 || 1 / 0")
        self.assert_value(0, "0 || 0")
        self.assert_value(1, "1 || 0 && 0")

    def test_choices(self):
        self.assert_value(2, "if 1 then 2 else 1 / 0")
        self.assert_value(3, "if 0 then 1 / 0 else 3")
        self.assert_value(4, "if 0 then 2 else 3 + 1")
        self.assert_value(3, "(if 1 then 2 else 3) + 1")

    def test_functions_from_the_beginning(self):
        self.assert_value(-3, "min(2, -3)")
        self.assert_value(2, "max(2, -3)")
        self.assert_value(3, "abs(-3)")
        self.assert_value(4, "abs(min(-3, max(-5, -4)))")

    def test_sums(self):
        self.assert_value(0, "sum(i in 1 .. 0: 1 / 0)")
        self.assert_value(5, "sum(i in 5 .. 5: i)")
        self.assert_value(-3, "sum(i in -3 .. 2: i)")
        self.assert_value(25, "sum(i in 1 .. 3: sum(j in i .. 3: i * j))")
        self.assert_value(3 + 7, "sum(i in 1 .. 2: i) + sum(i in 3 .. 4: i)")
        self.assert_value(6, "sum(i in sum(i in 1 .. 1: i) .. sum(i in 1 .. 2: i): i)")

    def test_blanks_and_comments(self):
        self.assert_value(3, "\t1\r\n+ # two\n 2 # the end")
        self.assert_value(3, "# none\n3\n")
        self.assert_value(4, "4#")


class Faults(ValueCase):
    def test_no_exp(self):
        self.assert_faults("", " ", "\n", "# 1", "# 1\n\t")

    def test_an_exp_that_breaks_off(self):
        self.assert_faults("1 +", "-", "!", "(", "(1", "abs", "abs(", "abs(1", "min(1,", "sum", "sum(", "sum(i", "if",
                           "sum(i in 1", "sum(i in 1 ..", "sum(i in 1 .. 2", "sum(i in 1 .. 2:", "sum(i in 1 .. 2: i",
                           "if 1", "if 1 then", "if 1 then 2", "if 1 then 2 else")

    def test_more_than_an_exp(self):
        self.assert_faults("1;", "1 2", "1)", "1 }", "1 ,", "1, 2", "1 .. 2", "1 = 1", "1 : 2", "1 then", "1 abs(2)",
                           "1 == 2 == 3", "1 < 2 < 3", "(1) (2)", "1 ! 2", "1 - ", "1 const a = 2;",
                           "1 if 1 then 2 else 3", "1 + if 1 then 2 else 3")

    def test_sheets(self):
        self.assert_faults("const a = 1;", "fun f() = 1;", "desk d { }", "const", "let a = 1;")

    def test_names_that_are_not_known(self):
        self.assert_faults("a", "1 + a", "f(1)", "a()", "Min(1, 2)", "sum(i in 1 .. 2: j)", "if 1 then 2 else b")

    def test_a_sums_name_outside_of_its_sum(self):
        self.assert_faults("sum(i in 1 .. 2: i) + i", "i + sum(i in 1 .. 2: i)", "sum(i in i .. 2: i)",
                           "sum(i in 1 .. i: i)", "sum(i in 1 .. 2: sum(j in 1 .. j: j))",
                           "sum(i in 1 .. 2: sum(j in 1 .. 2: j) + j)")

    def test_a_sums_name_that_is_not_free(self):
        self.assert_faults("sum(i in 1 .. 2: sum(i in 1 .. 2: i))", "sum(min in 1 .. 2: 1)", "sum(max in 1 .. 2: 1)",
                           "sum(abs in 1 .. 2: 1)")

    def test_key_words(self):
        for word in KEY_WORDS:
            self.assert_faults(word, f"1 + {word}", f"{word} + 1", f"sum({word} in 1 .. 2: 1)", f"1 {word}")

    def test_functions_with_other_counts_of_arguments(self):
        self.assert_faults("min", "min + 1", "min()", "min(1)", "min(1, 2, 3)", "max()", "max(1)", "max(1, 2, 3)",
                           "abs()", "abs(1, 2)", "abs 1", "(abs)(1)", "abs(,)", "min(1,)", "min(,1)", "min(1 2)")

    def test_wrong_tokens(self):
        self.assert_faults("@", "1 @", "@ 1", "1 & 2", "1 | 2", "1 . 2", "1.5", "1a", "9" * 19, "0" * 19, "x" * 25,
                           "\x80", "1 \x00", "1 # \n $", "sum(" + "i" * 25 + " in 1 .. 2: 1)")

    def test_a_fault_comes_ahead_of_what_can_not_be_worked_out(self):
        for exp in ("1 / 0", f"{TOP} + 1", "sum(i in 1 .. 9999: 1)"):
            for fault in (" +", " @", ";", " + a", ")", " 1"):
                self.assert_faults(exp + fault)


class Levels(ValueCase):
    def test_12_levels_and_13(self):
        for number, (begin, end) in enumerate(LEVELS):
            nested = "5"
            for level in range(1, 14):
                # The minus right before a number opens none.
                inner = "abs(5)" if begin == "-" and level == 1 else nested
                opened = level + 1 if begin == "-" else level
                nested = begin.replace("i in", f"i{level} in") + inner + end
                self.assertEqual(value(bytes_of(nested))[0], 0 if opened <= 12 else -3, (number, level, nested))

    def test_a_minus_before_a_number_opens_none(self):
        self.assert_value(-5, "(" * 12 + "-5" + ")" * 12)
        self.assert_value(5, "-" * 12 + "5")
        self.assert_value(-5, "-" * 13 + "5")
        self.assert_faults("-" * 14 + "5", "(" * 12 + "--5" + ")" * 12, "(" * 12 + "!5" + ")" * 12)

    def test_each_kind_within_12_and_13_brackets(self):
        for begin, end in LEVELS:
            inner = f"{begin}abs(5){end}"
            self.assertEqual(value(bytes_of("(" * 10 + inner + ")" * 10))[0], 0)
            self.assert_faults("(" * 11 + inner + ")" * 11)

    def test_levels_that_are_closed_do_not_count(self):
        deep = "(" * 12 + "1" + ")" * 12
        self.assert_value(3, f"{deep} + {deep} * 2")
        self.assert_value(9, "+".join(["(((3)))"] * 3))

    def test_far_too_many(self):
        self.assert_faults("(" * 3000, "-" * 3000, "!" * 3000, "abs(" * 750, "if " * 1000)


class NotWorkedOut(ValueCase):
    def test_a_divisor_0(self):
        for exp in ("1 / 0", "1 % 0", "0 / 0", "0 % 0", "5 / (2 - 2)", "1 + 2 * 3 % 0", "sum(i in -1 .. 1: 5 / i)"):
            self.assert_refused(-11, exp)
        self.assert_value(0, "0 / 5")

    def test_the_greatest_and_the_least(self):
        self.assert_value(GREATEST, "999999999999999999 + 1")
        self.assert_value(-GREATEST, "-999999999999999999 - 1")
        self.assert_value(GREATEST, "1000000000 * 1000000000")
        self.assert_value(-GREATEST, "1000000000 * -1000000000")
        self.assert_value(GREATEST, f"-{BOTTOM}")
        self.assert_value(-GREATEST, f"-{TOP}")
        self.assert_value(GREATEST, f"{BOTTOM} / -1")
        self.assert_value(-GREATEST, f"{TOP} / -1")
        self.assert_value(GREATEST, f"abs({BOTTOM})")
        self.assert_value(-GREATEST, f"min({TOP}, {BOTTOM})")
        self.assert_value(GREATEST, "sum(i in 0 .. 1: 500000000000000000)")
        self.assert_value(-GREATEST, "sum(i in 0 .. 1: -500000000000000000)")

    def test_beyond_them(self):
        for exp in (f"{TOP} + 1", f"{BOTTOM} - 1", f"1 + {TOP}", "999999999999999999 + 2", "-999999999999999999 - 2",
                    "1000000000 * 1000000001", "1000000000 * -1000000001", f"{TOP} * {TOP}", f"{TOP} + 1 - 1",
                    f"{TOP} * 2 / 2", "sum(i in 0 .. 1: 500000000000000001 - i)",
                    "sum(i in 0 .. 1: i - 500000000000000001)", "sum(i in 0 .. 2: 500000000000000000)"):
            self.assert_refused(-12, exp)

    def test_which_comes_first(self):
        self.assert_refused(-11, f"1 / 0 + {TOP} * 2")
        self.assert_refused(-12, f"{TOP} * 2 + 1 / 0")
        self.assert_refused(-12, f"{TOP} * 2 / 0")
        self.assert_refused(-11, f"{TOP} / 0 * 2")
        self.assert_refused(-11, f"min(1 / 0, {TOP} + 1)")
        self.assert_refused(-12, f"min({TOP} + 1, 1 / 0)")
        long = "sum(i in 1 .. 9999: 1)"
        for number, exp in ((-11, "1 / 0"), (-12, f"({TOP} + 1)")):
            self.assert_refused(number, f"{exp} + {long}")
            self.assert_refused(-13, f"{long} + {exp}")
            self.assert_refused(number, f"sum(i in 1 .. 9999: if i == 500 then {exp} else 1)")
            self.assert_refused(-13, f"sum(i in 1 .. 9999: if i == 9000 then {exp} else 1)")


class Steps(ValueCase):
    def test_exactly_10000_and_one_more(self):
        # A sum of so many turns takes three steps and two for each turn.
        self.assert_value(4998, "sum(i in 1 .. 4998: 1)")
        self.assert_value(-4998, "-sum(i in 1 .. 4998: 1)")
        self.assert_refused(-13, "sum(i in 1 .. 4999: 1)")
        self.assert_refused(-13, "--sum(i in 1 .. 4998: 1)")
        self.assert_refused(-13, "!-sum(i in 1 .. 4998: 1)")

    def test_a_refusal_at_the_last_step_and_behind_it(self):
        # The chain and its sum take 4 steps and two for each turn, its last number one.
        self.assert_refused(-11, "sum(i in 1 .. 4997: 1) / 0")
        self.assert_refused(-11, "-(sum(i in 1 .. 4997: 1) / 0)")
        self.assert_refused(-13, "--(sum(i in 1 .. 4997: 1) / 0)")
        self.assert_refused(-13, "sum(i in 1 .. 4998: 1) / 0")

    def test_brackets_take_none(self):
        self.assert_value(-4998, "((-((sum(i in (1) .. (4998): ((1)))))))")

    def test_an_endless_sum(self):
        self.assert_refused(-13, f"sum(i in {BOTTOM} .. {TOP}: 0)")
        self.assert_refused(-13, f"sum(i in 1 .. {TOP}: sum(j in 1 .. 0: 1))")

    def test_every_call_has_all_steps_again(self):
        for _ in range(3):
            self.assert_value(-4998, "-sum(i in 1 .. 4998: 1)")
            self.assert_refused(-13, "sum(i in 1 .. 4999: 1)")


class Texts(ValueCase):
    def test_the_longest_text(self):
        self.assert_value(1, "1" + " " * 2999)
        self.assert_value(1500, "1" + "+1" * 1499 + " ")
        self.assert_value(1, "#" * 2998 + "\n1")
        for longer in ("1" + " " * 3000, "1" + "+1" * 1500, "1" + "#" * 3000, " " * 4000, "@" * 3001):
            self.assert_refused(-1, longer)

    def test_what_is_no_byte(self):
        for number in (-1, 256, GREATEST, -GREATEST):
            for text in ([number], bytes_of("1") + [number], [number] + bytes_of("1"), bytes_of("1 / 0 #") + [number],
                         bytes_of("@") + [number]):
                self.assertEqual(value(text), [-1])

    def test_long_chains(self):
        for sign, number in (("+", 1000), ("*", 1), ("-", -998), ("/", 1), ("%", 0)):
            self.assert_value(number, sign.join(["1"] * 1000))
        self.assert_value(1, "&&".join(["1"] * 1000))
        self.assert_value(0, "||".join(["0"] * 1000))

    def test_the_list_stays_as_it_was(self):
        for text in ("1 + 2", "", "1 / 0", "@", "sum(i in 1 .. 9999: 1)"):
            handed = bytes_of(text)
            value(handed)
            self.assertEqual(handed, bytes_of(text))


def second_answer(text):
    """What value must answer to an exp without fault."""
    second = Second(MARKET, text)
    try:
        return [0, second.exp()({})]
    except Refused as refused:
        return [refused.args[0]]


class RandomExps(ValueCase):
    def test_their_values(self):
        met = {}
        for seed in range(2000):
            tokens = Trader(seed).exp(5)
            text = spread(tokens, seed)
            if len(text) <= 3000:
                answer = second_answer(" ".join(tokens))
                self.assert_answer(answer, text)
                met[answer[0]] = met.get(answer[0], 0) + 1
        self.assertEqual(sorted(met), [-13, -12, -11, 0], met)
        self.assertGreater(met[0], 1000)

    def test_what_is_an_exp_is_what_a_const_may_be(self):
        words = "if then else sum in n1 min abs 1 - ! ( ) , .. : + * == && || @ a =".split()
        met = {}
        for seed in range(4000):
            chooser = random.Random(seed)
            tokens = Trader(seed).exp(2)[:100]
            place = chooser.randrange(len(tokens) + 1)
            tokens[place:place + chooser.randrange(2)] = chooser.choices(words, k=chooser.randrange(3))
            text = " ".join(tokens)
            fault = check(bytes_of(f"const r = {text};"))[1]
            self.assertEqual(value(bytes_of(text)) == [-3], fault != 0, text)
            met[fault] = met.get(fault, 0) + 1
        # Each fault but 6 and 7: nothing is that deep, and no functions are given.
        self.assertEqual(sorted(met), [0, 1, 2, 3, 4, 5], met)
        self.assertGreater(met[0], 500)
