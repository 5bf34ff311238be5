"""What the tests share: texts written as str, and sheets with a mark at the place of their fault."""

import unittest

from ordersheets.sheets import check, show

MARK = "^"


def bytes_of(text):
    return list(text.encode("latin-1"))


def form_of(text):
    answer = show(bytes_of(text))
    if answer[0] != 0 or answer[1] != len(answer) - 2:
        raise AssertionError(f"no row: {answer[:5]} of {text!r}")
    return bytes(answer[2:]).decode("latin-1")


class SheetCase(unittest.TestCase):
    def assert_sound(self, text):
        self.assertEqual(check(bytes_of(text)), [0, 0, 0, 0], text)

    def assert_fault(self, number, marked):
        """The sheet is what's handed in without its mark; the mark stands right before the faulty token."""
        before, mark, after = marked.partition(MARK)
        self.assertEqual(mark, MARK, marked)
        line = before.count("\n") + 1
        column = len(before) - (before.rfind("\n") + 1) + 1
        self.assertEqual(check(bytes_of(before + after)), [0, number, line, column], marked)
        self.assertEqual(show(bytes_of(before + after)), [-3], marked)

    def assert_exp_sound(self, exp):
        self.assert_sound(f"const a = 1; const b = 2; const c = 3; const r = {exp};")

    def assert_exp_fault(self, number, marked):
        self.assert_fault(number, f"const a = 1; const b = 2; const c = 3; const r = {marked};")

    def assert_in_desk_sound(self, statements):
        self.assert_sound("desk d { " + statements + " }")

    def assert_in_desk_fault(self, number, marked):
        self.assert_fault(number, "desk d { " + marked + " }")

    def assert_form(self, form, text):
        self.assertEqual(form_of(text), form)
        self.assertEqual(form_of(form), form)

    def assert_exp_form(self, form, exp):
        given = "const a = 1;\nconst b = 2;\nconst c = 3;\nfun f() = 4;\n"
        self.assert_form(f"{given}const r = {form};\n", f"{given}const r = {exp};")

    def assert_statement_form(self, lines, statements):
        """The lines of the desk's statements, without the two blanks that all of them begin with."""
        form = "".join(f"  {line}\n" for line in lines)
        self.assert_form("desk d {\n" + form + "}\n", "desk d{" + statements + "}")
