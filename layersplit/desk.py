"""The desk: a house that is told deeds and asked questions by rows of text."""

from layersplit.counting import points_in, points_in_both
from layersplit.house import HELD, House
from layersplit.reading import read_deed, read_rule_words, read_things
from layersplit.rules import example
from layersplit.writing import house_text, list_text, marks_text

# The forms of what a question is asked by; an example is asked by a rule,
# which is of several words.
QUESTIONS = {
    "place": ("word", "guest"),
    "owner": ("word", "count"),
    "places": ("word", "word"),
    "shares": ("word",),
    "stand": ("guest",),
    "ever": ("guest",),
    "would": ("guest", "marks"),
    "who": ("word",),
    "points": ("word", "word"),
    "meet": ("word", "word", "word", "word"),
    "text": (),
}


def tuples_text(tuples, empty):
    if len(tuples) == 0:
        return empty
    return " ".join(["/".join(parts) for parts in tuples])


def owner_text(owner):
    if owner is None:
        return "free"
    if owner == HELD:
        return "held"
    return "/".join(owner)


def example_text(rule):
    marks = example(rule)
    return "none" if marks is None else marks_text(marks)


class Desk:
    def __init__(self, prime, salt):
        self.house = House(prime, salt)

    def say(self, row):
        words = row.split(" ")
        kind = words[0]
        if kind == "example":
            return example_text(read_rule_words(words[1:]))
        if kind in QUESTIONS:
            return self.asked(kind, read_things(QUESTIONS[kind], words[1:]))
        return tuples_text(self.house.do(read_deed(row)), "ok")

    def asked(self, kind, things):
        house = self.house
        if kind == "place":
            return str(house.place(things[0], things[1]))
        if kind == "owner":
            return owner_text(house.owner(things[0], things[1]))
        if kind == "places":
            return list_text(house.places(things[0], things[1]))
        if kind == "shares":
            return list_text(house.shares(things[0]))
        if kind == "stand":
            return tuples_text(house.stand(things[0]), "-")
        if kind == "ever":
            return tuples_text(house.ever(things[0]), "-")
        if kind == "would":
            return tuples_text(house.would(things[0], things[1]), "-")
        if kind == "who":
            return tuples_text(house.who(things[0]), "-")
        if kind == "points":
            return str(points_in(house, things[0], things[1]))
        if kind == "meet":
            return str(points_in_both(house, things[0], things[1], things[2], things[3]))
        return house_text(house)
