"""The words of a row, read as the fields that are to stand behind its first word."""

from stovework.amounts import read_amount
from stovework.errors import NoAmount
from stovework.names import is_name
from stovework.rows import number_of

# The least and the greatest of each kind of number.
BOUNDS = {
    "plates": (1, 1000),
    "length": (1, 100000),
    "many": (1, 8),
    "heat": (0, 1000),
    "turns": (0, 100000),
    "course": (1, 8),
    "parts": (0, 400),
    "low": (0, 1000000000000000),
}


# The first word and what the others tell by the fields; None where they are more, fewer or others than these.
def values_by(fields, words):
    if len(words) != 1 + len(fields):
        return None
    values = [words[0]]
    for field, word in zip(fields, words[1:]):
        values.append(value_of(field, word))
    return None if None in values else values


def value_of(field, word):
    if field == "name":
        return word if is_name(word) else None
    if field == "amount":
        return amount_from(word, 1)
    if field == "stock":
        return amount_from(word, 0)
    bounds = BOUNDS[field]
    return number_of(word, bounds[0], bounds[1])


# The amount that the word writes, None where it writes none or one whose top is below the least.
def amount_from(word, least):
    try:
        amount = read_amount(word)
    except NoAmount:
        return None
    return amount if amount[0] >= least else None
