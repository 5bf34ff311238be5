"""Reads an exp. The depth handed on is how many levels are open already."""

from ordersheets.nodes import COMPARISON, Call, Chain, Choice, Name, Number, Sum, Unary
from ordersheets.reader import ARGUMENTS, NOT_HERE, NOT_KNOWN, TOO_DEEP, Reader
from ordersheets.scan import scan_text

MOST_LEVELS = 12

# The signs between the operands of a chain, at the place of its strength.
CHAIN_SIGNS = (
    ("||",),
    ("&&",),
    ("==", "!=", "<=", ">=", "<", ">"),
    ("+", "-"),
    ("*", "/", "/rest"),
)


def read_lone_exp(text):
    """The exp of a text that holds nothing else; raises Fault if it has one."""
    reader = Reader(scan_text(text))
    exp = read_exp(reader, 0)
    if not reader.at_end():
        reader.fail(NOT_HERE)
    return exp


def deeper(reader, depth):
    """The depth within the level that the current token opens."""
    if depth == MOST_LEVELS:
        reader.fail(TOO_DEEP)
    return depth + 1


def read_exp(reader, depth):
    if reader.sees("if"):
        return read_choice(reader, depth)
    return read_chain(reader, depth, 0)


def read_choice(reader, depth):
    inner = deeper(reader, depth)
    reader.expect("if")
    condition = read_exp(reader, inner)
    reader.expect("then")
    chosen = read_exp(reader, inner)
    reader.expect("else")
    return Choice(condition, chosen, read_exp(reader, inner))


def read_chain(reader, depth, strength):
    """An either, both, compared, sums or products, by its strength, or a unary."""
    if strength == len(CHAIN_SIGNS):
        return read_unary(reader, depth)
    operands = [read_chain(reader, depth, strength + 1)]
    signs = []
    while reader.current().value in CHAIN_SIGNS[strength]:
        signs.append(reader.take())
        operands.append(read_chain(reader, depth, strength + 1))
        if strength == COMPARISON:
            break
    if len(signs) == 0:
        return operands[0]
    return Chain(strength, operands, signs)


def read_unary(reader, depth):
    if not reader.sees("-") and not reader.sees("!"):
        return read_primary(reader, depth)
    inner = depth
    if reader.sees("!") or not reader.number_follows():
        inner = deeper(reader, depth)
    sign = reader.take()
    return Unary(sign, read_unary(reader, inner))


def read_primary(reader, depth):
    if reader.at_number():
        return Number(reader.take())
    if reader.sees("("):
        return read_brackets(reader, depth)
    if reader.sees("sum"):
        return read_sum(reader, depth)
    reader.need_name()
    name = reader.current().value
    if name in reader.functions:
        return read_call(reader, depth)
    if name not in reader.known:
        reader.fail(NOT_KNOWN)
    return Name(reader.take())


def read_brackets(reader, depth):
    inner = deeper(reader, depth)
    reader.expect("(")
    exp = read_exp(reader, inner)
    reader.expect(")")
    return exp


def read_sum(reader, depth):
    inner = deeper(reader, depth)
    reader.expect("sum")
    reader.expect("(")
    name = reader.take_free_name()
    reader.expect("in")
    first = read_exp(reader, inner)
    reader.expect("..")
    last = read_exp(reader, inner)
    reader.expect(":")
    reader.learn(name)
    body = read_exp(reader, inner)
    reader.forget(name)
    reader.expect(")")
    return Sum(name, first, last, body)


def read_call(reader, depth):
    inner = deeper(reader, depth)
    name = reader.take()
    reader.expect("(")
    wanted = reader.functions[name]
    arguments = []
    while len(arguments) < wanted:
        if len(arguments) > 0:
            refuse_here(reader, ")")
            reader.expect(",")
        refuse_here(reader, ")")
        arguments.append(read_exp(reader, inner))
    if wanted > 0:
        refuse_here(reader, ",")
    reader.expect(")")
    return Call(name, arguments)


def refuse_here(reader, sign):
    """Told at this sign: an argument is missing, or there's one too many."""
    if reader.sees(sign):
        reader.fail(ARGUMENTS)
