"""Whole numbers from 0 on, as texts write them."""

FIGURES = "0123456789"
MOST_FIGURES = 30


# None where the text writes no whole number.
def read_figures(word):
    # The length comes first, so that no text is too long to be looked through.
    if len(word) < 1 or len(word) > MOST_FIGURES:
        return None
    if word[0] == "0" and word != "0":
        return None
    # int and isdigit know more figures than these ten, and int takes blanks and signs too.
    for sign in word:
        if sign not in FIGURES:
            return None
    return int(word)
