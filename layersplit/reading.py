"""Texts, read to the rules, deeds and houses that they write."""

from layersplit.checks import MOST_ARMS, MOST_SHUTS, are_arms, are_counts, are_weights, is_count, is_total
from layersplit.errors import BadRow, NoRow, SplitError
from layersplit.house import House
from layersplit.names import is_guest, is_text_of, is_word
from layersplit.rules import DEEPEST_RULE, are_marks, is_rule

FIGURES = "0123456789"
MOST_FIGURES = 60
# The forms of what stands behind the first word of a row; of a trial that
# which stands ahead of the rule, as only a rule is of several words.
FORMS = {
    "layer": ("word", "count"),
    "trial": ("word", "word", "arms", "shuts"),
    "share": ("word", "counts"),
    "deal": ("word", "total", "weights"),
    "hold": ("word", "count"),
    "pause": ("word",),
    "go": ("word",),
    "close": ("word",),
    "bar": ("guest", "word"),
    "visit": ("guest", "marks"),
}


def check_row(fits):
    if not fits:
        raise NoRow("this is not just what is written")


def read_number(text):
    figures = text[1:] if text.startswith("-") else text
    check_row(is_text_of(figures, FIGURES, MOST_FIGURES))
    number = int(text)
    # Python reads noughts ahead and a nought below 0 too, but writes neither.
    check_row(str(number) == text)
    return number


def read_mark(text):
    parts = text.partition("=")
    return (parts[0], read_number(parts[2]))


def parts_of(text):
    return [] if text == "-" else text.split(",")


def value_of(form, text):
    if form == "count" or form == "total":
        return read_number(text)
    if form == "arms" or form == "shuts":
        return tuple(parts_of(text))
    if form == "counts" or form == "weights":
        return tuple([read_number(part) for part in parts_of(text)])
    if form == "marks":
        return tuple([read_mark(part) for part in parts_of(text)])
    return text


def are_shuts(names):
    # Here no trial stands, so shuts are told by their words alone.
    return len(names) <= MOST_SHUTS and all([is_word(name) for name in names]) and len(set(names)) == len(names)


def is_of(form, thing):
    if form == "word":
        return is_word(thing)
    if form == "guest":
        return is_guest(thing)
    if form == "count":
        return is_count(thing)
    if form == "total":
        return is_total(thing)
    if form == "arms":
        return are_arms(thing)
    if form == "shuts":
        return are_shuts(thing)
    if form == "marks":
        return are_marks(thing)
    # A row tells no trial's arms, so there may be as many numbers as a trial may have arms.
    if not 1 <= len(thing) <= MOST_ARMS:
        return False
    return are_counts(thing, len(thing)) if form == "counts" else are_weights(thing, len(thing))


def read_thing(form, text):
    thing = value_of(form, text)
    check_row(is_of(form, thing))
    return thing


def read_things(forms, words):
    check_row(len(words) == len(forms))
    return [read_thing(form, word) for form, word in zip(forms, words)]


def take_word(words):
    check_row(len(words) > 0)
    return words.pop(0)


def take_rule(words, depth):
    # The depth goes first, so that a long row is not walked deeper than a rule goes.
    check_row(depth > 0)
    kind = take_word(words)
    if kind == "any":
        return (kind,)
    if kind == "has":
        return (kind, take_word(words))
    if kind == "least":
        word = take_word(words)
        return (kind, word, read_number(take_word(words)))
    check_row(kind in ("not", "both", "either"))
    first = take_rule(words, depth - 1)
    if kind == "not":
        return (kind, first)
    return (kind, first, take_rule(words, depth - 1))


def read_rule_words(words):
    left = list(words)
    rule = take_rule(left, DEEPEST_RULE)
    check_row(len(left) == 0 and is_rule(rule))
    return rule


def read_rule(text):
    return read_rule_words(text.split(" "))


def read_deed(text):
    words = text.split(" ")
    kind = words[0]
    check_row(kind in FORMS)
    if kind == "trial":
        things = read_things(FORMS[kind], words[1:5])
        # In the deed the rule stands ahead of the shuts.
        return (kind,) + tuple(things[:3]) + (read_rule_words(words[5:]), things[3])
    return (kind,) + tuple(read_things(FORMS[kind], words[1:]))


def read_first_row(row):
    words = row.split(" ")
    check_row(len(words) == 3 and words[0] == "house")
    return House(read_number(words[1]), read_number(words[2]))


def read_house(text):
    rows = text.split("\n")
    try:
        house = read_first_row(rows[0])
    except SplitError as error:
        raise BadRow(1) from error
    for number, row in enumerate(rows[1:], start=2):
        try:
            house.do(read_deed(row))
        except SplitError as error:
            raise BadRow(number) from error
    return house
