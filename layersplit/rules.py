"""Marks of guests, rules on them, and the example of a rule."""

from layersplit.names import is_whole, is_word

MOST_MARKS = 8
DEEPEST_RULE = 6
MOST_RULES = 30
MOST_WORDS = 3


def is_number(thing):
    return is_whole(thing) and -10 ** 30 <= thing <= 10 ** 30


def is_mark(thing):
    return isinstance(thing, tuple) and len(thing) == 2 and is_word(thing[0]) and is_number(thing[1])


def are_marks(thing):
    if not isinstance(thing, tuple) or len(thing) > MOST_MARKS:
        return False
    if not all([is_mark(mark) for mark in thing]):
        return False
    return len(set([mark[0] for mark in thing])) == len(thing)


def has_form(thing, depth):
    # The depth goes first, so that a thing is not walked deeper than a rule goes.
    if depth == 0 or not isinstance(thing, tuple) or len(thing) == 0:
        return False
    kind = thing[0]
    if kind == "any":
        return len(thing) == 1
    if kind == "has":
        return len(thing) == 2 and is_word(thing[1])
    if kind == "least":
        return len(thing) == 3 and is_word(thing[1]) and is_number(thing[2])
    if kind == "not":
        return len(thing) == 2 and has_form(thing[1], depth - 1)
    if kind == "both" or kind == "either":
        return len(thing) == 3 and has_form(thing[1], depth - 1) and has_form(thing[2], depth - 1)
    return False


def all_within(rule):
    found = [rule]
    if rule[0] in ("not", "both", "either"):
        for inner in rule[1:]:
            found.extend(all_within(inner))
    return found


def words_of(rule):
    return sorted(set([inner[1] for inner in all_within(rule) if inner[0] in ("has", "least")]))


def is_rule(thing):
    if not has_form(thing, DEEPEST_RULE):
        return False
    return len(all_within(thing)) <= MOST_RULES and len(words_of(thing)) <= MOST_WORDS


def holds(rule, marks):
    kind = rule[0]
    if kind == "any":
        return True
    if kind == "has":
        return any([mark[0] == rule[1] for mark in marks])
    if kind == "least":
        return any([mark[0] == rule[1] and mark[1] >= rule[2] for mark in marks])
    if kind == "not":
        return not holds(rule[1], marks)
    if kind == "both":
        return holds(rule[1], marks) and holds(rule[2], marks)
    return holds(rule[1], marks) or holds(rule[2], marks)


def numbers_for(rule, word):
    leasts = [inner for inner in all_within(rule) if inner[0] == "least" and inner[1] == word]
    if len(leasts) == 0:
        return [0]
    numbers = sorted(set([inner[2] for inner in leasts]))
    below = numbers[0] - 1
    # Marks bear no number below the bound, so there may be none to try.
    if is_number(below):
        return [below] + numbers
    return numbers


def first_marks(rule, words, marks):
    if len(words) == 0:
        return marks if holds(rule, marks) else None
    word = words[0]
    # The order of the examples: without the word first, then by rising numbers.
    choices = [()] + [((word, number),) for number in numbers_for(rule, word)]
    for choice in choices:
        found = first_marks(rule, words[1:], marks + choice)
        if found is not None:
            return found
    return None


def example(rule):
    return first_marks(rule, words_of(rule), ())
