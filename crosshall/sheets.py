"""Fields, and sheets that keep rows of them by numbers."""

from crosshall.errors import NoField, NoFields, NoRow, NoSuch
from crosshall.values import is_name, is_value

KINDS = ("word", "number")
MOST_FIELDS = 8


def is_field(thing):
    if not isinstance(thing, tuple) or len(thing) != 2:
        return False
    return is_name(thing[0]) and thing[1] in KINDS


def asked_fields(fields):
    if not isinstance(fields, list):
        raise NoFields("fields are a list")
    if not 1 <= len(fields) <= MOST_FIELDS:
        raise NoFields("fields are one to eight")
    seen = {}
    for field in fields:
        if not is_field(field):
            raise NoFields("a field is a tuple of a name and a kind")
        if field[0] in seen:
            raise NoFields("no name stands twice in fields")
        seen[field[0]] = True
    return True


def field_at(fields, name):
    for place, field in enumerate(fields):
        if field[0] == name:
            return place
    raise NoField(name)


def asked_row(fields, row):
    for place, thing in enumerate(row):
        if place >= len(fields) or not is_value(fields[place][1], thing):
            raise NoRow(place)
    if len(row) < len(fields):
        raise NoRow(len(row))
    return True


class Sheet:
    def __init__(self, fields):
        asked_fields(fields)
        self.kept_fields = list(fields)
        self.kept_rows = {}
        # Counted on its own, since the rows that are there don't tell which numbers were given.
        self.given = 0

    def fields(self):
        return list(self.kept_fields)

    def put(self, row):
        asked_row(self.kept_fields, row)
        number = self.given
        self.kept_rows[number] = tuple(row)
        self.given = number + 1
        return number

    def out(self, number):
        before = self.row(number)
        self.kept_rows.pop(number)
        return before

    def turn(self, number, row):
        before = self.row(number)
        asked_row(self.kept_fields, row)
        self.kept_rows[number] = tuple(row)
        return before

    def row(self, number):
        if number not in self.kept_rows:
            raise NoSuch(number)
        return self.kept_rows[number]

    def numbers(self):
        return sorted(self.kept_rows)
