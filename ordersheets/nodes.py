"""What a sheet is made of, once it has been read.

An exp is a Number, Name, Call, Unary, Chain, Choice or Sum; a statement is
a Let, For, If, Step or Block; a top is a Const, Fun or Desk.
"""

# Strengths of chains: how tightly their signs hold their operands.
EITHER = 0
BOTH = 1
COMPARISON = 2


class Number:
    def __init__(self, worth):
        self.worth = worth


class Name:
    def __init__(self, name):
        self.name = name


class Call:
    def __init__(self, name, arguments):
        self.name = name
        self.arguments = arguments


class Unary:
    def __init__(self, sign, operand):
        self.sign = sign
        self.operand = operand


class Chain:
    """Two or more operands with signs between them.

    The strength tells which: EITHER, BOTH, COMPARISON, then 3 a sums, 4 a products.
    """

    def __init__(self, strength, operands, signs):
        self.strength = strength
        self.operands = operands
        self.signs = signs


class Choice:
    """An exp that begins with if."""

    def __init__(self, condition, chosen, otherwise):
        self.condition = condition
        self.chosen = chosen
        self.otherwise = otherwise


class Sum:
    def __init__(self, name, first, last, body):
        self.name = name
        self.first = first
        self.last = last
        self.body = body


class Let:
    def __init__(self, name, exp):
        self.name = name
        self.exp = exp


class For:
    def __init__(self, name, first, last, statements):
        self.name = name
        self.first = first
        self.last = last
        self.statements = statements


class If:
    """A missing else is one without statements: both mean the same and are shown the same."""

    def __init__(self, condition, statements, else_statements):
        self.condition = condition
        self.statements = statements
        self.else_statements = else_statements


class Step:
    """The exp behind "to" is None if it's missing."""

    def __init__(self, side, zone, quarter, price, to_price, amount):
        self.side = side
        self.zone = zone
        self.quarter = quarter
        self.price = price
        self.to_price = to_price
        self.amount = amount


class Amounts:
    """The amounts of a block: an exp in which the name stands for the quarter."""

    def __init__(self, name, exp):
        self.name = name
        self.exp = exp


class Block:
    """The name, the name behind "under" and the exp behind "group" are None if they're missing."""

    def __init__(self, name, side, zone, price, amounts, under, group):
        self.name = name
        self.side = side
        self.zone = zone
        self.price = price
        self.amounts = amounts
        self.under = under
        self.group = group


class Const:
    def __init__(self, name, exp):
        self.name = name
        self.exp = exp


class Fun:
    def __init__(self, name, parameters, exp):
        self.name = name
        self.parameters = parameters
        self.exp = exp


class Desk:
    def __init__(self, name, statements):
        self.name = name
        self.statements = statements
