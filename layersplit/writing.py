"""Rules, lists, marks, deeds and houses, written as texts."""


def list_text(things):
    if len(things) == 0:
        return "-"
    return ",".join([str(thing) for thing in things])


def marks_text(marks):
    return list_text([f"{word}={number}" for word, number in marks])


def rule_text(rule):
    return " ".join([rule_text(part) if isinstance(part, tuple) else str(part) for part in rule])


def things_text(things):
    return " ".join([list_text(thing) if isinstance(thing, tuple) else str(thing) for thing in things])


def deed_text(deed):
    if deed[0] == "trial":
        # The rule is the one thing of many words, so it stands last in the row.
        return " ".join([things_text(deed[:4]), list_text(deed[5]), rule_text(deed[4])])
    if deed[0] == "visit":
        return " ".join([things_text(deed[:2]), marks_text(deed[2])])
    return things_text(deed)


def house_text(house):
    prime = house.prime()
    salt = house.salt()
    return "\n".join([f"house {prime} {salt}"] + [deed_text(deed) for deed in house.book()])
