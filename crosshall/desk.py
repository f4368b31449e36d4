"""A desk: a kept table and a look at it, told lines of words, each answered with a text."""

from crosshall.errors import NoLine
from crosshall.heads import names_of
from crosshall.hiding import veil
from crosshall.kept import Kept
from crosshall.looks import Look, other_side
from crosshall.parts import parts
from crosshall.sheets import field_at
from crosshall.showing import by_commas, lines_of
from crosshall.sieve_texts import read_sieve
from crosshall.values import read_value, written

# Small words stand for themselves. N is a number from 0 on, M one from 1 on, F a figure's place, S a side; V a value,
# P a path and T a text are any words, and so are those that stand for the dots, perhaps none.
LINES = (
    ("put", "V", ".."), ("out", "N"), ("turn", "N", "V", ".."), ("row", "N"), ("sieve", "T"), ("box", "P", "P"),
    ("rows", "P", "P"), ("open", "S", "P"), ("fold", "S", "P"), ("sort", "S", "P", "F", "up"),
    ("sort", "S", "P", "F", "down"), ("sort", "S", "none"), ("show",), ("parts", "N", "F"), ("veil", "M", "F"),
)
ANY_WORDS = ("V", "P", "T", "..")
SIDES = ("rows", "columns")


def fits_number(form, word, figures):
    number = read_value("number", word)
    if number is None:
        return False
    if form == "F":
        return 0 <= number < figures
    return number >= (1 if form == "M" else 0)


def fits_word(form, word, figures):
    if form in ANY_WORDS:
        return True
    if form == "S":
        return word in SIDES
    if form in ("N", "M", "F"):
        return fits_number(form, word, figures)
    return word == form


def fits_count(forms, words):
    if forms[-1] == "..":
        return len(words) >= len(forms) - 1
    return len(words) == len(forms)


def is_line(forms, words, figures):
    if not fits_count(forms, words):
        return False
    return all([fits_word(form, word, figures) for form, word in zip(forms, words)])


def asked_line(words, figures):
    if not any([is_line(forms, words, figures) for forms in LINES]):
        raise NoLine("this is no line of a desk")
    return True


def read_word(kind, word):
    if word == "-":
        return None
    value = read_value(kind, word)
    # What can't be read stays a text, which no field of that kind takes: so the deed refuses it, in its own order.
    return word if value is None else value


def read_words(kinds, words):
    return tuple([read_word(kind, word) for kind, word in zip(kinds, words)] + words[len(kinds):])


def read_row(kept, words):
    return read_words([kind for name, kind in kept.fields()], words)


def read_path(kept, side, word):
    if word == "all":
        return ()
    fields = kept.fields()
    kinds = [fields[field_at(fields, name)][1] for name in names_of(kept.view(), side)]
    return read_words(kinds, word.split("/"))


def all_or_none(texts):
    return " ".join(texts) if texts else "none"


def answer_put(kept, look, words):
    return written(kept.put(read_row(kept, words))[0])


def answer_out(kept, look, words):
    kept.out(int(words[0]))
    return "ok"


def answer_turn(kept, look, words):
    kept.turn(int(words[0]), read_row(kept, words[1:]))
    return "ok"


def answer_row(kept, look, words):
    return " ".join([written(value) for value in kept.row(int(words[0]))])


def answer_sieve(kept, look, words):
    kept.resieve(read_sieve(kept.fields(), words[0]))
    return "ok"


def answer_box(kept, look, words):
    return by_commas(kept.box(read_path(kept, "rows", words[0]), read_path(kept, "columns", words[1])))


def answer_rows(kept, look, words):
    numbers = kept.opened(read_path(kept, "rows", words[0]), read_path(kept, "columns", words[1]))
    return all_or_none([written(number) for number in numbers])


def answer_open(kept, look, words):
    look.open_up(words[0], read_path(kept, words[0], words[1]))
    return "ok"


def answer_fold(kept, look, words):
    look.fold(words[0], read_path(kept, words[0], words[1]))
    return "ok"


def answer_sort(kept, look, words):
    by = None
    # Told by the count, not by the word: `none` may be a path, too.
    if len(words) > 2:
        by = (read_path(kept, other_side(words[0]), words[1]), int(words[2]), words[3] == "down")
    look.sort_by(words[0], by)
    return "ok"


def answer_show(kept, look, words):
    return "\n".join(lines_of(look))


def answer_parts(kept, look, words):
    told = parts(kept.grid(int(words[1])), int(words[0]), [], [])
    return ";".join([by_commas(row) for row in told])


def answer_veil(kept, look, words):
    told = veil(kept.grid(int(words[1])), int(words[0]))
    return all_or_none([f"{row}/{column}" for row, column in told])


ANSWERS = {
    "put": answer_put, "out": answer_out, "turn": answer_turn, "row": answer_row, "sieve": answer_sieve,
    "box": answer_box, "rows": answer_rows, "open": answer_open, "fold": answer_fold, "sort": answer_sort,
    "show": answer_show, "parts": answer_parts, "veil": answer_veil,
}


class Desk:
    def __init__(self, fields, view):
        self.kept_table = Kept(fields, view, ("all", ()))
        self.look = Look(self.kept_table)

    def say(self, line):
        words = line.split(" ")
        asked_line(words, len(self.kept_table.view()[2]))
        answer = ANSWERS[words[0]]
        return answer(self.kept_table, self.look, words[1:])
