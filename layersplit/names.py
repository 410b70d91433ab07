"""What a whole number, a word and a guest's name are, asked of any thing."""

LETTERS = "abcdefghijklmnopqrstuvwxyz"
# The order counts: a guest's point is mixed by where a sign stands here.
GUEST_SIGNS = "abcdefghijklmnopqrstuvwxyz0123456789"
LONGEST_WORD = 12
LONGEST_GUEST = 24


def is_whole(thing):
    # Python counts True and False among its ints; here they are no numbers.
    return isinstance(thing, int) and not isinstance(thing, bool)


def is_text_of(thing, signs, longest):
    if not isinstance(thing, str):
        return False
    # The length goes first, so that a long text is not walked.
    return 1 <= len(thing) <= longest and all([sign in signs for sign in thing])


def is_word(thing):
    return is_text_of(thing, LETTERS, LONGEST_WORD)


def is_guest(thing):
    return is_text_of(thing, GUEST_SIGNS, LONGEST_GUEST)
