"""Names, words and values: which things they are, how they are written, read and ordered."""

# Written out, since Python's own islower, isalnum and isdigit let by signs of other scripts.
LETTERS = "abcdefghijklmnopqrstuvwxyz"
FIGURES = "0123456789"
MOST_SIGNS = 12
MOST_FIGURES = 60


def is_made_of(text, signs):
    return all([sign in signs for sign in text])


def is_short_text(thing, signs):
    if not isinstance(thing, str):
        return False
    return 1 <= len(thing) <= MOST_SIGNS and is_made_of(thing, signs)


def is_name(thing):
    return is_short_text(thing, LETTERS)


def is_word(thing):
    return is_short_text(thing, LETTERS + FIGURES)


def is_number(thing):
    if not isinstance(thing, int) or isinstance(thing, bool):
        return False
    # By size, not by the length of its text: Python writes out no number of some thousand figures.
    return abs(thing) < 10 ** 60


def is_value(kind, thing):
    if thing is None:
        return True
    if kind == "number":
        return is_number(thing)
    return is_word(thing)


def written(value):
    if value is None:
        return "-"
    return str(value)


def writes_number(text):
    figures = text[1:] if text.startswith("-") else text
    if not 1 <= len(figures) <= MOST_FIGURES or not is_made_of(figures, FIGURES):
        return False
    # 0 is written as itself alone: a `-` ahead of it is refused like a 0 ahead of other figures.
    return figures[0] != "0" or text == "0"


def read_value(kind, text):
    if kind == "number":
        return int(text) if writes_number(text) else None
    return text if is_word(text) else None


def order_key(value):
    # None can't be compared with others, so whether a value lacks goes first; this sets None behind all, too.
    return (1, 0) if value is None else (0, value)


def ahead(one, other):
    return order_key(one) < order_key(other)
