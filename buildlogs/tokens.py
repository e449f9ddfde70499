"""The tokens of a text."""

from buildlogs.texts import LINE_FEED, begins_word, codes, continues_word, is_digit, word_kind

SIGNS = (";", "{", "}")
CARRIAGE_RETURN = 13


# The kind is "number", "name", "long", or the kept word or sign itself. Two kinds more stand behind the last token
# that can be read, so that whatever is wrong is found as one that can't stand where it stands: "over" at the text's
# end, "none" where no token begins.
class Token:
    def __init__(self, kind, place, spelled):
        self.kind = kind
        self.place = place
        self.spelled = spelled


def is_blank(byte):
    return byte == ord(" ") or byte == ord("\t") or byte == LINE_FEED or byte == CARRIAGE_RETURN


def skip_blanks(text, start):
    place = start
    remark = False
    while place < len(text):
        byte = text[place]
        if byte == LINE_FEED:
            remark = False
        elif byte == ord("#"):
            remark = True
        elif not remark and not is_blank(byte):
            return place
        place += 1
    return place


def word_end(text, start):
    end = start
    while end < len(text) and continues_word(text[end]):
        end += 1
    return end


# start itself where a 0 has more digits behind it, as that is no number.
def number_end(text, start):
    end = start
    while end < len(text) and is_digit(text[end]):
        end += 1
    if text[start] == ord("0") and end > start + 1:
        return start
    return end


# start itself where no token begins.
def token_end(text, start):
    first = text[start]
    if begins_word(first):
        return word_end(text, start)
    if is_digit(first):
        return number_end(text, start)
    if first in [ord(sign) for sign in SIGNS]:
        return start + 1
    return start


def token_kind(spelled):
    if is_digit(spelled[0]):
        return "number"
    for sign in SIGNS:
        if spelled == codes(sign):
            return sign
    return word_kind(spelled)


def scan(text):
    tokens = []
    start = skip_blanks(text, 0)
    while start < len(text):
        end = token_end(text, start)
        if end == start:
            tokens.append(Token("none", start, ()))
            return tokens
        spelled = text[start:end]
        tokens.append(Token(token_kind(spelled), start, spelled))
        start = skip_blanks(text, end)
    tokens.append(Token("over", len(text), ()))
    return tokens
