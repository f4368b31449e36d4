"""Sieves: whether they are right for fields, and which rows they let by."""

from crosshall.errors import NoKind
from crosshall.sheets import field_at


def is_of_kind(kind, value):
    # Not is_value: a value somewhat beyond the bounds is still of its kind, and isn't refused.
    if kind == "number":
        return isinstance(value, int)
    return isinstance(value, str)


def asked_plain(fields, sieve):
    name = sieve[1]
    kind = fields[field_at(fields, name)][1]
    if sieve[0] in ("under", "over") and kind != "number":
        raise NoKind(name)
    if sieve[0] == "is" and not is_of_kind(kind, sieve[2]):
        raise NoKind(name)
    return True


def asked_sieve(fields, sieve):
    if sieve[0] == "not":
        return asked_sieve(fields, sieve[1])
    if sieve[0] in ("all", "some"):
        return all([asked_sieve(fields, inner) for inner in sieve[1]])
    return asked_plain(fields, sieve)


def holds(form, value, other):
    if form == "is":
        return value == other
    return value < other if form == "under" else value > other


def plain_lets_by(fields, sieve, row):
    value = row[field_at(fields, sieve[1])]
    if sieve[0] == "lacks":
        return value is None
    return value is not None and holds(sieve[0], value, sieve[2])


def lets_by(fields, sieve, row):
    if sieve[0] == "not":
        return not lets_by(fields, sieve[1], row)
    if sieve[0] == "all":
        return all([lets_by(fields, inner, row) for inner in sieve[1]])
    if sieve[0] == "some":
        return any([lets_by(fields, inner, row) for inner in sieve[1]])
    return plain_lets_by(fields, sieve, row)
