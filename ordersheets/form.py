"""The one form of a sheet. It's put together from texts, which become bytes at the end."""

from ordersheets.nodes import Call, Chain, Choice, Const, For, Fun, If, Let, Name, Number, Step, Unary

REST_BYTE = 37

UNARY_STRENGTH = 5
FULL_STRENGTH = 6


def sheet_form(tops):
    """The bytes of the form of a sheet with these tops."""
    pieces = []
    for top in tops:
        pieces.extend(top_form(top))
    return bytes_of(pieces)


def bytes_of(pieces):
    found = []
    for piece in pieces:
        if piece == "/rest":
            found.append(REST_BYTE)
        else:
            found.extend([ord(letter) for letter in piece])
    return found


def top_form(top):
    if isinstance(top, Const):
        return ["const ", top.name, " = "] + any_form(top.exp) + [";\n"]
    if isinstance(top, Fun):
        parameters = ", ".join(top.parameters)
        return ["fun ", top.name, "(", parameters, ") = "] + any_form(top.exp) + [";\n"]
    return ["desk ", top.name] + braces_form(top.statements, 0) + ["\n"]


def braces_form(statements, depth):
    """Braces and the lines between them; depth is that of the line in which they begin."""
    pieces = [" {\n"]
    for statement in statements:
        pieces.append("  " * (depth + 1))
        pieces.extend(statement_form(statement, depth + 1))
        pieces.append("\n")
    pieces.append("  " * depth)
    pieces.append("}")
    return pieces


def statement_form(statement, depth):
    if isinstance(statement, Let):
        return ["let ", statement.name, " = "] + any_form(statement.exp) + [";"]
    if isinstance(statement, For):
        return ["for "] + range_form(statement) + braces_form(statement.statements, depth)
    if isinstance(statement, If):
        return if_form(statement, depth)
    if isinstance(statement, Step):
        return step_form(statement)
    return block_form(statement)


def if_form(statement, depth):
    pieces = ["if "] + any_form(statement.condition) + braces_form(statement.statements, depth)
    if len(statement.else_statements) > 0:
        pieces.append(" else")
        pieces.extend(braces_form(statement.else_statements, depth))
    return pieces


def step_form(step):
    pieces = [step.side] + part_form("zone", step.zone) + part_form("quarter", step.quarter)
    pieces.extend(part_form("price", step.price))
    pieces.extend(part_form("to", step.to_price))
    pieces.extend(part_form("amount", step.amount))
    return pieces + [";"]


def block_form(block):
    pieces = ["block "]
    if block.name is not None:
        pieces.extend([block.name, " "])
    pieces.append(block.side)
    pieces.extend(part_form("zone", block.zone))
    pieces.extend(part_form("price", block.price))
    pieces.extend([" amount ", block.amounts.name, ": "])
    pieces.extend(any_form(block.amounts.exp))
    if block.under is not None:
        pieces.extend([" under ", block.under])
    pieces.extend(part_form("group", block.group))
    return pieces + [";"]


def part_form(word, exp):
    """A key word and the exp behind it; nothing if the exp is missing."""
    if exp is None:
        return []
    return [" ", word, " "] + any_form(exp)


def range_form(node):
    """The name and the bounds of a for or a sum."""
    return [node.name, " in "] + any_form(node.first) + [" .. "] + any_form(node.last)


def any_form(exp):
    """An exp at a place that allows any strength."""
    return placed_form(exp, 0)


def placed_form(exp, weakest):
    """An exp at a place that allows this strength and more."""
    if strength_of(exp) < weakest:
        return ["("] + exp_form(exp) + [")"]
    return exp_form(exp)


def strength_of(exp):
    if isinstance(exp, Chain):
        return exp.strength
    if isinstance(exp, Choice):
        return 0
    if isinstance(exp, Unary):
        return UNARY_STRENGTH
    return FULL_STRENGTH


def exp_form(exp):
    if isinstance(exp, Number):
        return [str(exp.worth)]
    if isinstance(exp, Name):
        return [exp.name]
    if isinstance(exp, Call):
        return [exp.name, "("] + arguments_form(exp.arguments) + [")"]
    if isinstance(exp, Unary):
        return [exp.sign] + placed_form(exp.operand, UNARY_STRENGTH)
    if isinstance(exp, Chain):
        return chain_form(exp)
    if isinstance(exp, Choice):
        return choice_form(exp)
    return ["sum("] + range_form(exp) + [": "] + any_form(exp.body) + [")"]


def arguments_form(arguments):
    pieces = []
    for argument in arguments:
        if len(pieces) > 0:
            pieces.append(", ")
        pieces.extend(any_form(argument))
    return pieces


def chain_form(chain):
    pieces = placed_form(chain.operands[0], chain.strength + 1)
    for sign, operand in zip(chain.signs, chain.operands[1:]):
        pieces.extend([" ", sign, " "])
        pieces.extend(placed_form(operand, chain.strength + 1))
    return pieces


def choice_form(choice):
    pieces = ["if "] + any_form(choice.condition) + [" then "] + any_form(choice.chosen)
    return pieces + [" else "] + any_form(choice.otherwise)
