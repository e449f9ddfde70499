"""Texts as tuples of bytes: which bytes form words, and which words are names.

Tuples, because they can be the keys of a dict and because Python orders them as the document orders texts.
"""

KEPT_WORDS = ("run", "kept", "end", "tool", "arg", "in", "out", "exit")
LONGEST_NAME = 32
LINE_FEED = 10


def codes(written):
    return tuple([ord(sign) for sign in written])


def is_digit(byte):
    return ord("0") <= byte <= ord("9")


def is_letter(byte):
    return ord("a") <= byte <= ord("z") or ord("A") <= byte <= ord("Z")


def begins_word(byte):
    return is_letter(byte) or byte == ord(".") or byte == ord("_")


def continues_word(byte):
    return begins_word(byte) or is_digit(byte) or byte == ord("-") or byte == ord("/") or byte == ord(":")


# A kept word is a kind of its own, since the form asks for it by its spelling; "long" is neither that nor a name.
def word_kind(word):
    for kept in KEPT_WORDS:
        if word == codes(kept):
            return kept
    if len(word) <= LONGEST_NAME:
        return "name"
    return "long"


def is_name(text):
    if len(text) == 0 or not begins_word(text[0]):
        return False
    if not all([continues_word(byte) for byte in text]):
        return False
    return word_kind(text) == "name"


# How many they are, then each with a byte 10 behind it: the form in which names are answered.
def counted_lines(names):
    lines = [len(names)]
    for name in names:
        lines.extend(name)
        lines.append(LINE_FEED)
    return lines
