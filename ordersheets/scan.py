"""From the bytes of a text to its tokens, each with its place."""

# The kinds of tokens, numbered as the document numbers them.
WORD = 0
NUMBER = 1
SIGN = 2
END = 3
WRONG = 4

LONGEST_WORD = 24
LONGEST_NUMBER = 18

LINE_FEED = 10
COMMENT = 35
BLANKS = (9, 10, 13, 32)

# The sign of the byte 37 may not stand in a text of this program, so it goes by
# "/rest" everywhere: that can be no word and no other sign.
SIGNS = {
    (61, 61): "==", (33, 61): "!=", (60, 61): "<=", (62, 61): ">=",
    (38, 38): "&&", (124, 124): "||", (46, 46): "..",
    (43,): "+", (45,): "-", (42,): "*", (47,): "/", (37,): "/rest",
    (40,): "(", (41,): ")", (123,): "{", (125,): "}",
    (44,): ",", (59,): ";", (58,): ":", (61,): "=",
    (60,): "<", (62,): ">", (33,): "!",
}

# All signs from the byte 48 to the byte 122: what a word is spelled with.
SPELLING = "0123456789:;<=>?@ABCDEFGHIJKLMNOPQRSTUVWXYZ[\\]^_`abcdefghijklmnopqrstuvwxyz"


class Token:
    """A token: its value is a word's or a sign's text, or what a number is worth."""

    def __init__(self, kind, value, line, column):
        self.kind = kind
        self.value = value
        self.line = line
        self.column = column


def is_digit(byte):
    return 48 <= byte <= 57


def is_letter(byte):
    return 65 <= byte <= 90 or 97 <= byte <= 122 or byte == 95


def comment_end(text, at):
    while at < len(text) and text[at] != LINE_FEED:
        at += 1
    return at


def word_end(text, at):
    while at < len(text) and (is_letter(text[at]) or is_digit(text[at])):
        at += 1
    return at


def digits_end(text, at):
    while at < len(text) and is_digit(text[at]):
        at += 1
    return at


def token_end(text, at):
    if is_letter(text[at]):
        return word_end(text, at)
    if is_digit(text[at]):
        return digits_end(text, at)
    pair = tuple(text[at:at + 2])
    return at + len(pair) if pair in SIGNS else at + 1


def token_kind(text, at, end):
    if is_letter(text[at]):
        return WORD if end - at <= LONGEST_WORD else WRONG
    if is_digit(text[at]):
        glued = end < len(text) and is_letter(text[end])
        return WRONG if glued or end - at > LONGEST_NUMBER else NUMBER
    return SIGN if tuple(text[at:end]) in SIGNS else WRONG


def decimal_worth(part):
    worth = 0
    for byte in part:
        worth = worth * 10 + byte - 48
    return worth


def token_value(kind, part):
    if kind == WORD:
        return "".join([SPELLING[byte - 48] for byte in part])
    if kind == NUMBER:
        return decimal_worth(part)
    if kind == SIGN:
        return SIGNS[tuple(part)]
    return ""


def scan_text(text):
    """All tokens of a text; the last one is the end, or a wrong one."""
    found = []
    line = 1
    line_start = 0
    at = 0
    while at < len(text):
        if text[at] in BLANKS:
            at += 1
            if text[at - 1] == LINE_FEED:
                line += 1
                line_start = at
        elif text[at] == COMMENT:
            at = comment_end(text, at)
        else:
            end = token_end(text, at)
            kind = token_kind(text, at, end)
            found.append(Token(kind, token_value(kind, text[at:end]), line, at - line_start + 1))
            if kind == WRONG:
                return found
            at = end
    found.append(Token(END, "", line, at - line_start + 1))
    return found
