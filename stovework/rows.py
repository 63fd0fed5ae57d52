"""Rows of words, and the numbers among them."""

from stovework.figures import read_figures


def words_of(row):
    words = row.split(" ")
    # A blank that parts no two words leaves a word without signs; so does the text without signs.
    if "" in words:
        return None
    return words


def number_of(word, low, high):
    number = read_figures(word)
    if number is None or number < low or number > high:
        return None
    return number
