"""Makes the exps of a sheet simpler. What is handed in stays as it was: the simpler sheet is a new one."""

from ordersheets.arithmetic import (
    GREATEST, decided_value, decides, function_result, has_result, sign_result, unary_result,
)
from ordersheets.nodes import (
    BOTH, EITHER, Amounts, Block, Call, Chain, Choice, Const, Desk, For, Fun, If, Let, Number, Step, Sum, Unary,
)
from ordersheets.reader import FIRST_FUNCTIONS


def simpler_tops(tops):
    return [simpler_top(top) for top in tops]


def simpler_top(top):
    if isinstance(top, Const):
        return Const(top.name, simpler(top.exp))
    if isinstance(top, Fun):
        return Fun(top.name, top.parameters, simpler(top.exp))
    return Desk(top.name, simpler_statements(top.statements))


def simpler_statements(statements):
    return [simpler_statement(statement) for statement in statements]


def simpler_statement(statement):
    if isinstance(statement, Let):
        return Let(statement.name, simpler(statement.exp))
    if isinstance(statement, For):
        inner = simpler_statements(statement.statements)
        return For(statement.name, simpler(statement.first), simpler(statement.last), inner)
    if isinstance(statement, If):
        chosen = simpler_statements(statement.statements)
        return If(simpler(statement.condition), chosen, simpler_statements(statement.else_statements))
    if isinstance(statement, Step):
        return simpler_step(statement)
    return simpler_block(statement)


def simpler_step(step):
    zone = simpler(step.zone)
    quarter = simpler(step.quarter)
    price = simpler(step.price)
    return Step(step.side, zone, quarter, price, simpler_if_there(step.to_price), simpler(step.amount))


def simpler_block(block):
    zone = simpler(block.zone)
    price = simpler(block.price)
    amounts = Amounts(block.amounts.name, simpler(block.amounts.exp))
    return Block(block.name, block.side, zone, price, amounts, block.under, simpler_if_there(block.group))


def simpler_if_there(exp):
    return None if exp is None else simpler(exp)


def simpler(exp):
    """The exp made simpler, from its parts up."""
    if isinstance(exp, Call):
        return simpler_call(exp)
    if isinstance(exp, Unary):
        return simpler_unary(exp)
    if isinstance(exp, Chain):
        return simpler_chain(exp)
    if isinstance(exp, Choice):
        return simpler_choice(exp)
    if isinstance(exp, Sum):
        return simpler_sum(exp)
    return exp


def written_value(exp):
    """What a written number is worth; None if the exp is none."""
    if isinstance(exp, Number):
        return exp.worth
    if isinstance(exp, Unary) and exp.sign == "-" and isinstance(exp.operand, Number):
        return 0 - exp.operand.worth
    return None


def written_number(value):
    if value < 0:
        return Unary("-", Number(0 - value))
    return Number(value)


def simpler_call(call):
    arguments = [simpler(argument) for argument in call.arguments]
    values = [written_value(argument) for argument in arguments]
    if call.name in FIRST_FUNCTIONS and None not in values:
        return written_number(function_result(call.name, values))
    return Call(call.name, arguments)


def simpler_unary(unary):
    operand = simpler(unary.operand)
    value = written_value(operand)
    if value is None:
        return Unary(unary.sign, operand)
    return written_number(unary_result(unary.sign, value))


def simpler_chain(chain):
    operands = [simpler(operand) for operand in chain.operands]
    if chain.strength in (EITHER, BOTH):
        return simpler_deciding(chain, operands)
    return simpler_reckoning(chain, operands)


def simpler_deciding(chain, operands):
    """An either or a both, of its simpler operands."""
    values = [written_value(operand) for operand in operands]
    decided = decided_value(chain.strength)
    if values[0] is not None and decides(chain.strength, values[0]):
        return Number(decided)
    if None in values:
        return Chain(chain.strength, operands, chain.signs)
    if any([decides(chain.strength, value) for value in values]):
        return Number(decided)
    return Number(1 - decided)


def simpler_reckoning(chain, operands):
    """A sums, a products or a comparison, of its simpler operands: as many as can be become the first one."""
    first = operands[0]
    used = 1
    while used < len(operands):
        value = written_result(chain.signs[used - 1], first, operands[used])
        if value is None:
            break
        first = written_number(value)
        used += 1
    if used == len(operands):
        return first
    return Chain(chain.strength, [first] + operands[used:], chain.signs[used - 1:])


def written_result(sign, left, right):
    """The result of a sign between two written numbers; None if there's none that can be written."""
    left_value = written_value(left)
    right_value = written_value(right)
    if left_value is None or right_value is None or not has_result(sign, right_value):
        return None
    value = sign_result(sign, left_value, right_value)
    return value if abs(value) < GREATEST else None


def simpler_choice(choice):
    condition = simpler(choice.condition)
    value = written_value(condition)
    if value is None:
        return Choice(condition, simpler(choice.chosen), simpler(choice.otherwise))
    return simpler(choice.chosen) if value != 0 else simpler(choice.otherwise)


def simpler_sum(summed):
    first = simpler(summed.first)
    last = simpler(summed.last)
    first_value = written_value(first)
    last_value = written_value(last)
    if first_value is not None and last_value is not None and last_value < first_value:
        return Number(0)
    return Sum(summed.name, first, last, simpler(summed.body))
