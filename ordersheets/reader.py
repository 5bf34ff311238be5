"""The place in a sheet up to which it has been read, and the names known there."""

from ordersheets.refusals import Fault
from ordersheets.scan import END, NUMBER, WORD, WRONG

# The kinds of faults, numbered as the document numbers them.
WRONG_TOKEN = 1
NOT_HERE = 2
NOT_KNOWN = 3
NOT_FREE = 4
ARGUMENTS = 5
TOO_DEEP = 6
TOO_MANY = 7

KEY_WORDS = (
    "const", "fun", "desk", "let", "for", "in", "if", "then", "else", "sell", "buy", "zone", "quarter",
    "price", "to", "amount", "block", "under", "group", "sum",
)

FIRST_FUNCTIONS = {"min": 2, "max": 2, "abs": 1}


class Reader:
    """Goes through tokens from the left to the right.

    known holds the values' names that are known now, functions how many
    parameters each known function has, desks and blocks the names that the
    sheet's desks and the present desk's blocks have.
    """

    def __init__(self, tokens):
        self.tokens = tokens
        self.at = 0
        self.known = {}
        self.functions = dict(FIRST_FUNCTIONS)
        self.desks = {}
        self.blocks = {}

    def current(self):
        """The token to be read now; every look at a token goes through here, so a wrong one is always fault 1."""
        token = self.tokens[self.at]
        if token.kind == WRONG:
            raise Fault(WRONG_TOKEN, token.line, token.column)
        return token

    def fail(self, kind):
        token = self.current()
        raise Fault(kind, token.line, token.column)

    def sees(self, value):
        return self.current().value == value

    def at_end(self):
        return self.current().kind == END

    def at_number(self):
        return self.current().kind == NUMBER

    def at_name(self):
        token = self.current()
        return token.kind == WORD and token.value not in KEY_WORDS

    def number_follows(self):
        # The only look ahead. A wrong token there is no number and is told when it's reached,
        # so this doesn't go through current.
        return self.tokens[self.at + 1].kind == NUMBER

    def take(self):
        """Goes past the current token and gives back its value."""
        token = self.current()
        self.at += 1
        return token.value

    def expect(self, value):
        if not self.sees(value):
            self.fail(NOT_HERE)
        self.at += 1

    def skips(self, value):
        """Goes past the current token if it's this one, and tells whether it was."""
        if not self.sees(value):
            return False
        self.at += 1
        return True

    def need_name(self):
        if not self.at_name():
            self.fail(NOT_HERE)

    def take_free_name(self):
        """The name of a value or a function that's given here."""
        self.need_name()
        name = self.current().value
        if name in self.known or name in self.functions:
            self.fail(NOT_FREE)
        return self.take()

    def take_name_not_in(self, given):
        """The name of a desk or a block, which is to be another than those given before."""
        self.need_name()
        if self.current().value in given:
            self.fail(NOT_FREE)
        return self.take()

    def learn(self, name):
        self.known[name] = True

    def forget(self, name):
        self.known.pop(name)
