"""Works out exps to numbers, counting the steps.

Exps within exps, and functions within functions, may nest deeper than
Python's own calls may. So the exps that have begun stand in a list, each
with the values of its parts, and a loop goes on with the last of them.
"""

from ordersheets.arithmetic import (
    GREATEST, decided_value, decides, function_result, has_result, sign_result, unary_result,
)
from ordersheets.nodes import BOTH, EITHER, Call, Chain, Choice, Name, Number, Unary
from ordersheets.refusals import DivisorIsZero, NoStepLeft, TooGreat

MOST_STEPS = 10000


class Task:
    """An exp that has begun, and the values of those of its parts that are worked out."""

    def __init__(self, exp):
        self.exp = exp
        self.parts = []


class Worker:
    """Keeps the steps taken, the functions given and the values of names.

    The first of the scopes holds the values of all names outside of
    functions; each function that is being worked out adds one with its own.
    """

    def __init__(self):
        self.taken = 0
        self.functions = {}
        self.scopes = [{}]
        self.tasks = []
        self.result = 0

    def take_step(self):
        if self.taken == MOST_STEPS:
            raise NoStepLeft()
        self.taken += 1

    def set_value(self, name, value):
        self.scopes[-1][name] = value

    def value_of(self, name):
        # What a function doesn't have of its own is a const's: no other name is known in its exp.
        if name in self.scopes[-1]:
            return self.scopes[-1][name]
        return self.scopes[0][name]

    def begin(self, exp):
        self.take_step()
        self.tasks.append(Task(exp))

    def finish(self, value):
        """Ends the last task; its value is a part of the one before it, or the result."""
        self.tasks.pop()
        if len(self.tasks) > 0:
            self.tasks[-1].parts.append(value)
        else:
            self.result = value

    def work_out(self, exp):
        self.begin(exp)
        while len(self.tasks) > 0:
            go_on(self, self.tasks[-1].exp, self.tasks[-1].parts)
        return self.result


def go_on(worker, exp, parts):
    """Begins the next part of the last task, or finishes it."""
    if isinstance(exp, Number):
        worker.finish(exp.worth)
    elif isinstance(exp, Name):
        worker.finish(worker.value_of(exp.name))
    elif isinstance(exp, Call):
        go_on_call(worker, exp, parts)
    elif isinstance(exp, Unary):
        go_on_unary(worker, exp, parts)
    elif isinstance(exp, Chain):
        go_on_chain(worker, exp, parts)
    elif isinstance(exp, Choice):
        go_on_choice(worker, exp, parts)
    else:
        go_on_sum(worker, exp, parts)


def go_on_call(worker, call, parts):
    wanted = len(call.arguments)
    if len(parts) < wanted:
        worker.begin(call.arguments[len(parts)])
    elif call.name not in worker.functions:
        worker.finish(function_result(call.name, parts))
    elif len(parts) == wanted:
        function = worker.functions[call.name]
        worker.scopes.append(dict(zip(function.parameters, parts)))
        worker.begin(function.exp)
    else:
        worker.scopes.pop()
        worker.finish(parts[wanted])


def go_on_unary(worker, unary, parts):
    if len(parts) == 0:
        worker.begin(unary.operand)
    else:
        worker.finish(unary_result(unary.sign, parts[0]))


def go_on_chain(worker, chain, parts):
    if chain.strength in (EITHER, BOTH):
        go_on_deciding(worker, chain, parts)
    else:
        go_on_reckoning(worker, chain, parts)


def go_on_deciding(worker, chain, parts):
    """Goes on with an either or a both."""
    if len(parts) > 0 and decides(chain.strength, parts[-1]):
        worker.finish(decided_value(chain.strength))
    elif len(parts) < len(chain.operands):
        worker.begin(chain.operands[len(parts)])
    else:
        worker.finish(1 - decided_value(chain.strength))


def go_on_reckoning(worker, chain, parts):
    """Goes on with a sums, a products or a comparison; the last part becomes the value of all up to it."""
    if len(parts) > 1:
        right = parts.pop()
        parts.append(checked_result(chain.signs[len(parts) - 1], parts[-1], right))
    if len(parts) < len(chain.operands):
        worker.begin(chain.operands[len(parts)])
    else:
        worker.finish(parts[-1])


def checked_result(sign, left, right):
    if not has_result(sign, right):
        raise DivisorIsZero()
    return not_too_great(sign_result(sign, left, right))


def not_too_great(value):
    if abs(value) > GREATEST:
        raise TooGreat()
    return value


def go_on_choice(worker, choice, parts):
    if len(parts) == 0:
        worker.begin(choice.condition)
    elif len(parts) == 2:
        worker.finish(parts[1])
    elif parts[0] != 0:
        worker.begin(choice.chosen)
    else:
        worker.begin(choice.otherwise)


def go_on_sum(worker, summed, parts):
    if len(parts) == 0:
        worker.begin(summed.first)
    elif len(parts) == 1:
        worker.begin(summed.last)
    else:
        go_on_turns(worker, summed, parts)


def go_on_turns(worker, summed, parts):
    """Goes on with the turns of a sum; behind its bounds, the last part becomes the sum so far."""
    turns = len(parts) - 2
    if turns > 1:
        added = parts.pop()
        parts.append(not_too_great(parts[-1] + added))
    if parts[0] + turns <= parts[1]:
        worker.take_step()
        worker.set_value(summed.name, parts[0] + turns)
        worker.begin(summed.body)
    else:
        worker.finish(parts[-1] if turns > 0 else 0)
