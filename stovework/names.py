"""What a name is."""

LETTERS = "abcdefghijklmnopqrstuvwxyz"
MOST_LETTERS = 12


def is_name(thing):
    if not isinstance(thing, str) or len(thing) < 1 or len(thing) > MOST_LETTERS:
        return False
    # islower and isalpha know more letters than these.
    for sign in thing:
        if sign not in LETTERS:
            return False
    return True
