"""The calls on order sheets. A text is a list of its bytes; an answer is a list of whole numbers."""

from ordersheets.expansion import Market, expand_tops
from ordersheets.form import sheet_form
from ordersheets.orders import demand, order_numbers, supply
from ordersheets.reader import Fault
from ordersheets.refusals import Faulty, NoSuchPlace, NotAsTold, Refusal
from ordersheets.simpler import simpler_tops
from ordersheets.tops import read_sheet

LONGEST_TEXT = 3000

MOST_ZONES = 6
MOST_QUARTERS = 4
MOST_PRICE = 1000000


def is_text(text):
    return len(text) <= LONGEST_TEXT and all([0 <= byte <= 255 for byte in text])


def is_price(price):
    return 0 - MOST_PRICE <= price <= MOST_PRICE


def is_market(zones, quarters, low, high):
    counts = 1 <= zones <= MOST_ZONES and 1 <= quarters <= MOST_QUARTERS
    return counts and is_price(low) and is_price(high) and low <= high


def need(as_told):
    if not as_told:
        raise NotAsTold()


def sound_tops(text):
    """The tops of a sheet without fault."""
    try:
        tops = read_sheet(text)
    except Fault:
        raise Faulty() from None
    return tops


def row(numbers):
    return [len(numbers)] + numbers


def check(text):
    """The first fault's number, line and column, three times 0 if the sheet has none."""
    if not is_text(text):
        return [-1]
    try:
        read_sheet(text)
    except Fault as fault:
        return [0, fault.number, fault.line, fault.column]
    return [0, 0, 0, 0]


def show(text):
    """A row: the bytes of the sheet's one form."""
    try:
        need(is_text(text))
        tops = sound_tops(text)
    except Refusal as refusal:
        return [refusal.number]
    return [0] + row(sheet_form(tops))


def expand(zones, quarters, low, high, text):
    """How many orders there are, then a row for each."""
    try:
        need(is_market(zones, quarters, low, high) and is_text(text))
        expansion = expand_tops(Market(zones, quarters, low, high), sound_tops(text))
    except Refusal as refusal:
        return [refusal.number]
    answer = [0, len(expansion.orders)]
    for order in expansion.orders:
        answer.extend(row(order_numbers(order)))
    return answer


def curve(zones, quarters, low, high, zone, quarter, price, text):
    """The supply and the demand in this zone and quarter at this price."""
    try:
        need(is_market(zones, quarters, low, high) and is_text(text))
        need(0 <= zone < MOST_ZONES and 0 <= quarter < MOST_QUARTERS and is_price(price))
        if zone >= zones or quarter >= quarters:
            raise NoSuchPlace()
        orders = expand_tops(Market(zones, quarters, low, high), sound_tops(text)).orders
    except Refusal as refusal:
        return [refusal.number]
    return [0, supply(orders, zone, quarter, price), demand(orders, zone, quarter, price)]


def fold(text):
    """A row: the bytes of the one form of the sheet made simpler."""
    try:
        need(is_text(text))
        tops = simpler_tops(sound_tops(text))
    except Refusal as refusal:
        return [refusal.number]
    return [0] + row(sheet_form(tops))


def steps(zones, quarters, low, high, text):
    """How many steps the expansion took."""
    try:
        need(is_market(zones, quarters, low, high) and is_text(text))
        expansion = expand_tops(Market(zones, quarters, low, high), sound_tops(text))
    except Refusal as refusal:
        return [refusal.number]
    return [0, expansion.worker.taken]
