"""Amounts, fractions from 0 on, written and read."""

from stovework.errors import NoAmount
from stovework.figures import read_figures
from stovework.ratios import fraction, plus, round_down


def amount_text(amount):
    whole = round_down(amount)
    bottom = amount[1]
    top = amount[0] - whole * bottom
    if top == 0:
        return str(whole)
    if whole == 0:
        return f"{top}/{bottom}"
    return f"{whole}+{top}/{bottom}"


def read_amount(text):
    if not isinstance(text, str):
        raise NoAmount("an amount is read from a text")
    amount = loosely_read(text)
    # Each amount is written in one way alone: any other writing of it does not come back.
    if amount is None or amount_text(amount) != text:
        raise NoAmount("an amount is written as W, T/B or W+T/B")
    return amount


# None where the text is no sum of fractions; 2/4, 3/2, 0+1/2 and 1+2 are read here, too.
def loosely_read(text):
    if "+" not in text:
        return loosely_read_term(text)
    halves = text.partition("+")
    whole = loosely_read_term(halves[0])
    rest = loosely_read_term(halves[2])
    if whole is None or rest is None:
        return None
    return plus(whole, rest)


def loosely_read_term(text):
    if "/" not in text:
        text = f"{text}/1"
    halves = text.partition("/")
    top = read_figures(halves[0])
    bottom = read_figures(halves[2])
    if top is None or bottom is None or bottom == 0:
        return None
    return fraction(top, bottom)
