"""The orders of an expansion, what they supply and demand, and what each desk has of them."""

# The sides, numbered as they're answered.
SELLS = 0
BUYS = 1


class StepOrder:
    def __init__(self, desk, zone, quarter, side, low, high, amount):
        self.desk = desk
        self.zone = zone
        self.quarter = quarter
        self.side = side
        self.low = low
        self.high = high
        self.amount = amount


class BlockOrder:
    """The parent is the number of an order, or -1; the amounts are those of the quarters."""

    def __init__(self, desk, zone, side, price, group, parent, amounts):
        self.desk = desk
        self.zone = zone
        self.side = side
        self.price = price
        self.group = group
        self.parent = parent
        self.amounts = amounts


def side_number(word):
    return SELLS if word == "sell" else BUYS


def order_numbers(order):
    """The numbers of an order's row."""
    if isinstance(order, StepOrder):
        return [0, order.desk, order.zone, order.quarter, order.side, order.low, order.high, order.amount]
    return [1, order.desk, order.zone, order.side, order.price, order.group, order.parent] + order.amounts


def steps_of(orders, zone, quarter, side):
    """The step orders of this side there."""
    steps = [order for order in orders if isinstance(order, StepOrder)]
    return [step for step in steps if step.zone == zone and step.quarter == quarter and step.side == side]


def supply(orders, zone, quarter, price):
    return sum([offered(step, price) for step in steps_of(orders, zone, quarter, SELLS)])


def demand(orders, zone, quarter, price):
    return sum([wanted(step, price) for step in steps_of(orders, zone, quarter, BUYS)])


def offered(step, price):
    """How much of a step order that sells is offered at this price."""
    if price >= step.high:
        return step.amount
    if price < step.low:
        return 0
    return step.amount * (price - step.low) // (step.high - step.low)


def wanted(step, price):
    """How much of a step order that buys is wanted at this price."""
    if price <= step.low:
        return step.amount
    if price > step.high:
        return 0
    return step.amount * (step.high - price) // (step.high - step.low)


def desk_numbers(orders, desk):
    """How many step orders and block orders this desk has, and how much they sell and buy."""
    own = [order for order in orders if order.desk == desk]
    steps = [order for order in own if isinstance(order, StepOrder)]
    return [len(steps), len(own) - len(steps), traded(own, SELLS), traded(own, BUYS)]


def traded(orders, side):
    return sum([whole_amount(order) for order in orders if order.side == side])


def whole_amount(order):
    if isinstance(order, StepOrder):
        return order.amount
    return sum(order.amounts)
