"""Papers, written as texts and read again."""

from stovework.errors import NoRow
from stovework.names import is_name
from stovework.rows import number_of, words_of

# The words of the rows that are a list of numbers.
LISTED = ("split", "chain", "ring")
# The greatest number of nine figures.
GREATEST_WRITTEN = 999999999


def paper_text(paper):
    return "\n".join([row_text(row) for row in paper])


def row_text(row):
    words = [row[0]]
    if row[0] in LISTED:
        words.extend([str(number) for number in row[1]])
    else:
        words.append(str(row[1]))
    if row[0] == "full":
        words.extend([chains_text(front, back) for front, back in zip(row[2], row[3])])
    return " ".join(words)


def chains_text(front, back):
    return ":".join([numbers_text(front), numbers_text(back)])


def numbers_text(numbers):
    return ",".join([str(number) for number in numbers])


def read_paper(text):
    if not isinstance(text, str):
        raise NoRow(0)
    if text == "":
        return []
    paper = []
    for at, line in enumerate(text.split("\n")):
        row = read_row(line)
        if row is None:
            raise NoRow(at)
        paper.append(row)
    return paper


# None where the text is no row of a paper; so it is with what is read below.
def read_row(line):
    words = words_of(line)
    if words is None:
        return None
    if words[0] in LISTED:
        numbers = read_numbers(words[1:])
        return None if numbers is None else (words[0], numbers)
    if words[0] == "ways":
        return read_ways(words)
    if words[0] == "full":
        return read_full(words)
    return None


def read_numbers(words):
    numbers = [number_of(word, 0, GREATEST_WRITTEN) for word in words]
    return None if None in numbers else numbers


def read_ways(words):
    numbers = read_numbers(words[1:])
    if numbers is None or len(numbers) != 1:
        return None
    return ("ways", numbers[0])


def read_full(words):
    if len(words) < 2 or not is_name(words[1]):
        return None
    fronts = []
    backs = []
    for word in words[2:]:
        halves = [read_chain(half) for half in word.split(":")]
        if len(halves) != 2 or None in halves:
            return None
        fronts.append(halves[0])
        backs.append(halves[1])
    return ("full", words[1], fronts, backs)


def read_chain(text):
    if text == "":
        return []
    return read_numbers(text.split(","))
