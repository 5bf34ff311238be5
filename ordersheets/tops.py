"""Reads a sheet: its tops and the statements of its desks."""

from ordersheets.exps import read_exp
from ordersheets.nodes import Amounts, Block, Const, Desk, For, Fun, If, Let, Step
from ordersheets.reader import FIRST_FUNCTIONS, NOT_FREE, NOT_HERE, NOT_KNOWN, TOO_DEEP, TOO_MANY, Reader
from ordersheets.scan import scan_text

MOST_BRACES = 6
MOST_FUNCTIONS = 6
MOST_PARAMETERS = 6


def read_sheet(text):
    """The tops of a sheet; raises Fault if it has one."""
    reader = Reader(scan_text(text))
    tops = []
    while not reader.at_end():
        tops.append(read_top(reader))
    return tops


def read_top(reader):
    if reader.sees("const"):
        return read_const(reader)
    if reader.sees("fun"):
        return read_fun(reader)
    return read_desk(reader)


def read_const(reader):
    reader.expect("const")
    name = reader.take_free_name()
    exp = read_given(reader)
    reader.learn(name)
    return Const(name, exp)


def read_given(reader):
    """What stands behind the name that's given: "=" exp ";"."""
    reader.expect("=")
    exp = read_exp(reader, 0)
    reader.expect(";")
    return exp


def read_fun(reader):
    if len(reader.functions) == len(FIRST_FUNCTIONS) + MOST_FUNCTIONS:
        reader.fail(TOO_MANY)
    reader.expect("fun")
    name = reader.take_free_name()
    reader.expect("(")
    parameters = []
    if not reader.sees(")"):
        parameters = read_parameters(reader, name)
    reader.expect(")")
    exp = read_given(reader)
    for parameter in parameters:
        reader.forget(parameter)
    reader.functions[name] = len(parameters)
    return Fun(name, parameters, exp)


def read_parameters(reader, function):
    """One or more parameters; each is known at once, as the next one must be another."""
    parameters = [read_parameter(reader, function)]
    while reader.skips(","):
        if len(parameters) == MOST_PARAMETERS:
            reader.fail(TOO_MANY)
        parameters.append(read_parameter(reader, function))
    return parameters


def read_parameter(reader, function):
    if reader.sees(function):
        reader.fail(NOT_FREE)
    name = reader.take_free_name()
    reader.learn(name)
    return name


def read_desk(reader):
    reader.expect("desk")
    name = reader.take_name_not_in(reader.desks)
    reader.desks[name] = True
    reader.blocks = {}
    return Desk(name, read_braces(reader, 0))


def read_braces(reader, depth):
    """The statements between two braces; depth is how many pairs of for and if are open within the desk."""
    reader.expect("{")
    statements = []
    while not reader.sees("}"):
        statements.append(read_statement(reader, depth))
    reader.expect("}")
    for statement in statements:
        if isinstance(statement, Let):
            reader.forget(statement.name)
    return statements


def read_statement(reader, depth):
    if reader.sees("let"):
        return read_let(reader)
    if reader.sees("for"):
        return read_for(reader, depth)
    if reader.sees("if"):
        return read_if(reader, depth)
    if reader.sees("block"):
        return read_block(reader)
    return read_step(reader)


def read_let(reader):
    reader.expect("let")
    name = reader.take_free_name()
    exp = read_given(reader)
    reader.learn(name)
    return Let(name, exp)


def deeper_braces(reader, depth):
    if depth == MOST_BRACES:
        reader.fail(TOO_DEEP)
    return depth + 1


def read_for(reader, depth):
    inner = deeper_braces(reader, depth)
    reader.expect("for")
    name = reader.take_free_name()
    reader.expect("in")
    first = read_exp(reader, 0)
    reader.expect("..")
    last = read_exp(reader, 0)
    reader.learn(name)
    statements = read_braces(reader, inner)
    reader.forget(name)
    return For(name, first, last, statements)


def read_if(reader, depth):
    inner = deeper_braces(reader, depth)
    reader.expect("if")
    condition = read_exp(reader, 0)
    statements = read_braces(reader, inner)
    else_statements = []
    if reader.skips("else"):
        else_statements = read_braces(reader, inner)
    return If(condition, statements, else_statements)


def read_side(reader):
    if not reader.sees("sell") and not reader.sees("buy"):
        reader.fail(NOT_HERE)
    return reader.take()


def read_part(reader, word):
    """A key word that must stand here, and the exp behind it."""
    reader.expect(word)
    return read_exp(reader, 0)


def read_part_if_there(reader, word):
    if not reader.sees(word):
        return None
    return read_part(reader, word)


def read_step(reader):
    side = read_side(reader)
    zone = read_part(reader, "zone")
    quarter = read_part(reader, "quarter")
    price = read_part(reader, "price")
    to_price = read_part_if_there(reader, "to")
    amount = read_part(reader, "amount")
    reader.expect(";")
    return Step(side, zone, quarter, price, to_price, amount)


def read_block(reader):
    reader.expect("block")
    name = None
    if reader.at_name():
        name = reader.take_name_not_in(reader.blocks)
    side = read_side(reader)
    zone = read_part(reader, "zone")
    price = read_part(reader, "price")
    amounts = read_amounts(reader)
    under = None
    if reader.skips("under"):
        under = read_under_name(reader)
    group = read_part_if_there(reader, "group")
    reader.expect(";")
    # Only now, as a block can't stand under itself.
    if name is not None:
        reader.blocks[name] = True
    return Block(name, side, zone, price, amounts, under, group)


def read_amounts(reader):
    reader.expect("amount")
    name = reader.take_free_name()
    reader.expect(":")
    reader.learn(name)
    exp = read_exp(reader, 0)
    reader.forget(name)
    return Amounts(name, exp)


def read_under_name(reader):
    reader.need_name()
    if reader.current().value not in reader.blocks:
        reader.fail(NOT_KNOWN)
    return reader.take()
