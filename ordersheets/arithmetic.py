"""What the signs and the functions from the beginning make of numbers."""

from ordersheets.nodes import BOTH

# No result may be further from 0 than this.
GREATEST = 1000000000000000000


def has_result(sign, right):
    """Whether the sign can be worked out with this number on its right."""
    return right != 0 or sign not in ("/", "/rest")


def sign_result(sign, left, right):
    """The result of a sign of a sums, a products or a comparison, if it has one."""
    if sign == "+":
        return left + right
    if sign == "-":
        return left - right
    if sign == "*":
        return left * right
    if sign == "/":
        return left // right
    if sign == "/rest":
        return left % right
    return 1 if is_so(sign, left, right) else 0


def is_so(sign, left, right):
    """Whether a comparison of this sign holds."""
    if sign == "==":
        return left == right
    if sign == "!=":
        return left != right
    if sign == "<=":
        return left <= right
    if sign == ">=":
        return left >= right
    if sign == "<":
        return left < right
    return left > right


def unary_result(sign, number):
    if sign == "-":
        return 0 - number
    return 1 if number == 0 else 0


def function_result(name, numbers):
    """The result of min, max or abs."""
    if name == "min":
        return min(numbers)
    if name == "max":
        return max(numbers)
    return abs(numbers[0])


def decides(strength, number):
    """Whether this operand of a both or an either decides its value, whatever the others are."""
    if strength == BOTH:
        return number == 0
    return number != 0


def decided_value(strength):
    """The value of a both or an either if an operand decides it; the other one of 0 and 1 if none does."""
    return 0 if strength == BOTH else 1
