"""The calls on order sheets. A text is a list of its bytes; an answer is a list of whole numbers."""

from ordersheets.expansion import Market, expand_tops
from ordersheets.exps import read_lone_exp
from ordersheets.form import sheet_form
from ordersheets.orders import demand, desk_numbers, order_numbers, supply
from ordersheets.refusals import Fault, NoSuchPlace, NotAsTold, Refusal
from ordersheets.scan import scan_text
from ordersheets.simpler import simpler_tops
from ordersheets.tops import read_sheet
from ordersheets.worker import Worker

LONGEST_TEXT = 3000

MOST_ZONES = 6
MOST_QUARTERS = 4
MOST_PRICE = 1000000


def is_text(text):
    return len(text) <= LONGEST_TEXT and all([0 <= byte <= 255 for byte in text])


def is_price(price):
    return 0 - MOST_PRICE <= price <= MOST_PRICE


def is_market(zones, quarters, low, high):
    counts = 1 <= zones <= MOST_ZONES and 1 <= quarters <= MOST_QUARTERS
    return counts and is_price(low) and is_price(high) and low <= high


def need(as_told):
    if not as_told:
        raise NotAsTold()


def expanded(zones, quarters, low, high, text):
    """The expansion of a sheet in a market, once both are known to be as told."""
    return expand_tops(Market(zones, quarters, low, high), read_sheet(text))


def order_rows(expansion):
    return [row(order_numbers(order)) for order in expansion.orders]


def row(numbers):
    return [len(numbers)] + numbers


def check(text):
    """The first fault's number, line and column, three times 0 if the sheet has none."""
    if not is_text(text):
        return [-1]
    try:
        read_sheet(text)
    except Fault as fault:
        return [0, fault.kind, fault.line, fault.column]
    return [0, 0, 0, 0]


def show(text):
    """A row: the bytes of the sheet's one form."""
    try:
        need(is_text(text))
        tops = read_sheet(text)
    except Refusal as refusal:
        return [refusal.number]
    return [0] + row(sheet_form(tops))


def expand(zones, quarters, low, high, text):
    """How many orders there are, then a row for each."""
    try:
        need(is_market(zones, quarters, low, high) and is_text(text))
        expansion = expanded(zones, quarters, low, high, text)
    except Refusal as refusal:
        return [refusal.number]
    answer = [0, len(expansion.orders)]
    for numbers in order_rows(expansion):
        answer.extend(numbers)
    return answer


def curve(zones, quarters, low, high, zone, quarter, price, text):
    """The supply and the demand in this zone and quarter at this price."""
    try:
        need(is_market(zones, quarters, low, high) and is_text(text))
        need(0 <= zone < MOST_ZONES and 0 <= quarter < MOST_QUARTERS and is_price(price))
        if zone >= zones or quarter >= quarters:
            raise NoSuchPlace()
        orders = expanded(zones, quarters, low, high, text).orders
    except Refusal as refusal:
        return [refusal.number]
    return [0, supply(orders, zone, quarter, price), demand(orders, zone, quarter, price)]


def fold(text):
    """A row: the bytes of the one form of the sheet made simpler."""
    try:
        need(is_text(text))
        tops = simpler_tops(read_sheet(text))
    except Refusal as refusal:
        return [refusal.number]
    return [0] + row(sheet_form(tops))


def steps(zones, quarters, low, high, text):
    """How many steps the expansion took."""
    try:
        need(is_market(zones, quarters, low, high) and is_text(text))
        expansion = expanded(zones, quarters, low, high, text)
    except Refusal as refusal:
        return [refusal.number]
    return [0, expansion.worker.taken]


def same(zones, quarters, low, high, text, other):
    """1 if both sheets have the same orders in the same order, else 0."""
    try:
        need(is_market(zones, quarters, low, high) and is_text(text) and is_text(other))
        first = expanded(zones, quarters, low, high, text)
        second = expanded(zones, quarters, low, high, other)
    except Refusal as refusal:
        return [refusal.number]
    return [0, 1 if order_rows(first) == order_rows(second) else 0]


def value(text):
    """The value of a text that is an exp."""
    try:
        need(is_text(text))
        worth = Worker().work_out(read_lone_exp(text))
    except Refusal as refusal:
        return [refusal.number]
    return [0, worth]


def desks(zones, quarters, low, high, text):
    """How many desks there are, then for each how many step and block orders it has, and how much it sells and buys."""
    try:
        need(is_market(zones, quarters, low, high) and is_text(text))
        expansion = expanded(zones, quarters, low, high, text)
    except Refusal as refusal:
        return [refusal.number]
    # The desks are numbered from 0, and the expansion's desk is the last one.
    count = expansion.desk + 1
    answer = [0, count]
    for desk in range(count):
        answer.extend(desk_numbers(expansion.orders, desk))
    return answer


def tokens(text):
    """How many tokens there are, then for each its kind, line and column."""
    if not is_text(text):
        return [-1]
    found = scan_text(text)
    answer = [0, len(found)]
    for token in found:
        answer.extend([token.kind, token.line, token.column])
    return answer
