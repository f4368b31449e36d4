"""Sieves as texts: how they are written, and read for fields."""

from crosshall.errors import NoKind, NoSieve
from crosshall.sheets import field_at
from crosshall.sieves import asked_sieve
from crosshall.values import FIGURES, LETTERS, is_name, read_value, written

MOST_LEVELS = 12
MOST_SIEVES = 60
MOST_VALUE_SIGNS = 61
JOINTS = {"all": "&", "some": "|"}
MARKS = {"is": "=", "under": "<", "over": ">"}


def shown_sieve(sieve):
    form = sieve[0]
    if form == "not":
        return "!" + shown_sieve(sieve[1])
    if form == "lacks":
        return sieve[1] + "?"
    if form in MARKS:
        return sieve[1] + MARKS[form] + written(sieve[2])
    joint = JOINTS[form]
    inner = joint.join([shown_sieve(one) for one in sieve[1]])
    return f"({joint}{inner})"


class Reading:
    def __init__(self, text):
        self.text = text
        self.at = 0
        self.begun = 0

    def takes(self, signs):
        if not self.text.startswith(signs, self.at):
            return False
        self.at += len(signs)
        return True

    def run_of(self, signs):
        begin = self.at
        while self.at < len(self.text) and self.text[self.at] in signs:
            self.at += 1
        return self.text[begin:self.at]

    def one_sieve(self, level):
        # Refused on the way down: what is written behind can't mend it, and the signs may make thousands of levels.
        self.begun += 1
        if level > MOST_LEVELS or self.begun > MOST_SIEVES:
            raise NoSieve("a sieve has at most twelve levels and sixty sieves")
        if self.takes("!"):
            return ("not", self.one_sieve(level + 1))
        for form, joint in JOINTS.items():
            if self.takes("(" + joint):
                return (form, self.some_sieves(joint, level + 1))
        return self.plain_sieve()

    def some_sieves(self, joint, level):
        if self.takes(")"):
            return ()
        sieves = [self.one_sieve(level)]
        while self.takes(joint):
            sieves.append(self.one_sieve(level))
        if not self.takes(")"):
            raise NoSieve("sieves within end with a bracket")
        return tuple(sieves)

    def plain_sieve(self):
        name = self.run_of(LETTERS)
        if not is_name(name):
            raise NoSieve("a plain sieve begins with a name")
        if self.takes("?"):
            return ("lacks", name)
        for form, mark in MARKS.items():
            if self.takes(mark):
                return (form, name, self.value_text() if form == "is" else self.bound())
        raise NoSieve("behind a name stands one of four signs")

    def value_text(self):
        text = self.run_of(LETTERS + FIGURES + "-")
        if not 1 <= len(text) <= MOST_VALUE_SIGNS:
            raise NoSieve("a value has one to 61 signs")
        return text

    def bound(self):
        number = read_value("number", self.run_of(FIGURES + "-"))
        if number is None:
            raise NoSieve("a bound is a number of at most sixty figures")
        return number


def settled_value(fields, name, text):
    kind = fields[field_at(fields, name)][1]
    value = read_value(kind, text)
    if value is None:
        raise NoKind(name)
    return value


def settled(fields, sieve):
    if sieve[0] == "not":
        return ("not", settled(fields, sieve[1]))
    if sieve[0] in JOINTS:
        return (sieve[0], tuple([settled(fields, inner) for inner in sieve[1]]))
    if sieve[0] == "is":
        return ("is", sieve[1], settled_value(fields, sieve[1], sieve[2]))
    asked_sieve(fields, sieve)
    return sieve


def read_sieve(fields, text):
    reading = Reading(text)
    # The values stay texts until all is read: what they are read to hangs on fields, and NoSieve goes ahead of those.
    sieve = reading.one_sieve(1)
    if reading.at < len(text):
        raise NoSieve("something stands behind the sieve")
    return settled(fields, sieve)
