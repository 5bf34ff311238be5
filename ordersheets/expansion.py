"""Expands a sheet to its orders."""

from ordersheets.nodes import Const, Desk, For, Fun, If, Let, Step
from ordersheets.orders import BlockOrder, StepOrder, side_number
from ordersheets.refusals import NoParent, OutOfRange, TooManyOrders
from ordersheets.worker import Worker

MOST_ORDERS = 48
MOST_AMOUNT = 1000000000
MOST_SPREAD = 10000
MOST_GROUP = 9


class Market:
    def __init__(self, zones, quarters, low, high):
        self.zones = zones
        self.quarters = quarters
        self.low = low
        self.high = high


class Expansion:
    """Keeps the orders made so far, the present desk's number and which orders its blocks' names name."""

    def __init__(self, market):
        self.market = market
        self.worker = Worker()
        self.orders = []
        self.desk = -1
        self.named = {}


def expand_tops(market, tops):
    """The expansion of a sheet with these tops; raises a Refusal if it's refused."""
    expansion = Expansion(market)
    for top in tops:
        do_top(expansion, top)
    return expansion


def do_top(expansion, top):
    if isinstance(top, Const):
        expansion.worker.take_step()
        give_value(expansion.worker, top)
    elif isinstance(top, Fun):
        expansion.worker.functions[top.name] = top
    elif isinstance(top, Desk):
        expansion.desk += 1
        expansion.named = {}
        do_statements(expansion, top.statements)


def give_value(worker, given):
    """Works out the exp of a const or a let for its name."""
    worker.set_value(given.name, worker.work_out(given.exp))


def do_statements(expansion, statements):
    for statement in statements:
        expansion.worker.take_step()
        do_statement(expansion, statement)


def do_statement(expansion, statement):
    if isinstance(statement, Let):
        give_value(expansion.worker, statement)
    elif isinstance(statement, For):
        do_for(expansion, statement)
    elif isinstance(statement, If):
        do_if(expansion, statement)
    elif isinstance(statement, Step):
        do_step(expansion, statement)
    else:
        do_block(expansion, statement)


def do_for(expansion, loop):
    worker = expansion.worker
    turn = worker.work_out(loop.first)
    last = worker.work_out(loop.last)
    while turn <= last:
        worker.take_step()
        worker.set_value(loop.name, turn)
        do_statements(expansion, loop.statements)
        turn += 1


def do_if(expansion, condition):
    if expansion.worker.work_out(condition.condition) != 0:
        do_statements(expansion, condition.statements)
    else:
        do_statements(expansion, condition.else_statements)


def need_range(number, least, most):
    if not least <= number <= most:
        raise OutOfRange()


def do_step(expansion, step):
    worker = expansion.worker
    zone = worker.work_out(step.zone)
    quarter = worker.work_out(step.quarter)
    low = worker.work_out(step.price)
    high = low if step.to_price is None else worker.work_out(step.to_price)
    amount = worker.work_out(step.amount)
    market = expansion.market
    need_range(zone, 0, market.zones - 1)
    need_range(quarter, 0, market.quarters - 1)
    need_range(low, market.low, market.high)
    need_range(high, low, market.high)
    need_range(high - low, 0, MOST_SPREAD)
    need_range(amount, 0, MOST_AMOUNT)
    if amount > 0:
        side = side_number(step.side)
        add_order(expansion, StepOrder(expansion.desk, zone, quarter, side, low, high, amount))


def add_order(expansion, order):
    if len(expansion.orders) == MOST_ORDERS:
        raise TooManyOrders()
    expansion.orders.append(order)


def do_block(expansion, block):
    worker = expansion.worker
    zone = worker.work_out(block.zone)
    price = worker.work_out(block.price)
    amounts = work_out_amounts(expansion, block.amounts)
    group = 0 if block.group is None else worker.work_out(block.group)
    need_range(zone, 0, expansion.market.zones - 1)
    need_range(price, expansion.market.low, expansion.market.high)
    for amount in amounts:
        need_range(amount, 0, MOST_AMOUNT)
    need_range(group, 0, MOST_GROUP)
    if sum(amounts) > 0:
        parent = parent_of(expansion, block)
        side = side_number(block.side)
        add_block(expansion, block.name, BlockOrder(expansion.desk, zone, side, price, group, parent, amounts))


def work_out_amounts(expansion, amounts):
    """The amounts of a block, one for each quarter."""
    found = []
    for quarter in range(expansion.market.quarters):
        expansion.worker.set_value(amounts.name, quarter)
        found.append(expansion.worker.work_out(amounts.exp))
    return found


def parent_of(expansion, block):
    """The number of the order under which a block's order stands, -1 if under none."""
    if block.under is None:
        return -1
    if block.under not in expansion.named:
        raise NoParent()
    return expansion.named[block.under]


def add_block(expansion, name, order):
    add_order(expansion, order)
    if name is not None:
        expansion.named[name] = len(expansion.orders) - 1
