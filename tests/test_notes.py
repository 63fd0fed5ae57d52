import copy
import random
import re
import unittest

from helping import chance_name, tight_net
from stovework.errors import NoRow
from stovework.notes import paper_text, read_paper
from stovework.seeker import seek

# Papers beside their texts.
PAIRS = (
    ([], ""),
    ([("split", [])], "split"),
    ([("split", [0])], "split 0"),
    ([("split", [0, 1, 2])], "split 0 1 2"),
    ([("chain", [])], "chain"),
    ([("chain", [7])], "chain 7"),
    ([("chain", [0, 1, 4])], "chain 0 1 4"),
    ([("ring", [])], "ring"),
    ([("ring", [0])], "ring 0"),
    ([("ring", [1, 2])], "ring 1 2"),
    ([("ways", 3)], "ways 3"),
    ([("ways", 0)], "ways 0"),
    ([("full", "oven", [], [])], "full oven"),
    ([("full", "oven", [[]], [[]])], "full oven :"),
    ([("full", "oven", [[], []], [[], []])], "full oven : :"),
    ([("full", "oven", [[4]], [[]])], "full oven 4:"),
    ([("full", "oven", [[]], [[5]])], "full oven :5"),
    ([("full", "oven", [[0, 2], [4]], [[3, 5], [5]])], "full oven 0,2:3,5 4:5"),
    ([("full", "a", [[1, 2, 3], []], [[], [0]])], "full a 1,2,3: :0"),
    ([("full", "abcdefghijkl", [[10]], [[0]])], "full abcdefghijkl 10:0"),
    ([("chain", [999999999, 0, 10, 100])], "chain 999999999 0 10 100"),
    ([("full", "split", [[999999999]], [[123456789]])], "full split 999999999:123456789"),
    ([("ways", 999999999)], "ways 999999999"),
    ([("chain", []), ("chain", [])], "chain\nchain"),
    (
        [("split", [0, 1]), ("ways", 1), ("ring", [0, 1]), ("chain", []), ("full", "pot", [[0]], [[1]])],
        "split 0 1\nways 1\nring 0 1\nchain\nfull pot 0:1",
    ),
)

# Rows that are none.
WRONG = (
    "",
    " ",
    " split 0 1",
    "split 0 1 ",
    "split  0 1",
    "split 0  1",
    "split 00",
    "split 01",
    "split 0,1",
    "split -1",
    "split +1",
    "split 1.0",
    "split a",
    "split 0:1",
    "Split 0 1",
    "splits 0 1",
    "split0 1",
    "chain 1234567890",
    "chain 0 1000000000",
    "chain 0 1,4",
    "chain,0",
    "chain oven",
    "ring 0123",
    "ring none",
    "ring 0 x",
    "ways",
    "ways 1 2",
    "ways 00",
    "ways 01",
    "ways 1000000000",
    "ways -1",
    "ways x",
    "way 1",
    "full",
    "full Oven 0:1",
    "full 0:1",
    "full oven1 0:1",
    "full abcdefghijklm 0:1",
    "full oven 0",
    "full oven 0,2",
    "full oven 0:1:2",
    "full oven ::",
    "full oven 0:1 ::",
    "full oven 0,:1",
    "full oven ,0:1",
    "full oven 0,,2:1",
    "full oven ,:1",
    "full oven 0:1,",
    "full oven 0:,1",
    "full oven 0 :1",
    "full oven 0: 1",
    "full oven 0, 2:1",
    "full oven 00:1",
    "full oven 0:01",
    "full oven 1234567890:1",
    "full oven 0:1000000000",
    "full oven 0:1 4",
    "full oven 0:1  4:5",
    "full oven 0:1 ",
    "full oven pan 0:1",
    "full oven -1:1",
    "none",
    "0",
    "0 1 2",
    "judge 3",
    "dish soup 4",
    "chain\t0",
    "chain 0\t1",
)


def row_by_words(row):
    """What a row tells by its form as a whole; None where it has none such."""
    number = "(?:0|[1-9][0-9]{0,8})"
    chain = f"(?:{number}(?:,{number})*)?"
    if re.fullmatch(f"(split|chain|ring)( {number})*", row):
        words = row.split(" ")
        return (words[0], [int(word) for word in words[1:]])
    if re.fullmatch(f"ways {number}", row):
        return ("ways", int(row[5:]))
    if re.fullmatch(f"full [a-z]{{1,12}}( {chain}:{chain})*", row):
        words = row.split(" ")
        halves = [word.split(":") for word in words[2:]]
        lists = [[[int(each) for each in half.split(",") if each] for half in pair] for pair in halves]
        return ("full", words[1], [pair[0] for pair in lists], [pair[1] for pair in lists])
    return None


class Texts(unittest.TestCase):
    def refused(self, text):
        with self.assertRaises(NoRow) as caught:
            read_paper(text)
        return caught.exception.at

    def test_written(self):
        for paper, text in PAIRS:
            before = copy.deepcopy(paper)
            self.assertEqual(paper_text(paper), text)
            self.assertEqual(paper, before)

    def test_read(self):
        for paper, text in PAIRS:
            self.assertEqual(read_paper(text), paper)
            for row in read_paper(text):
                self.assertIs(type(row), tuple)

    def test_wrong_rows_wherever_they_stand(self):
        for wrong in WRONG:
            self.assertIsNone(row_by_words(wrong))
            if wrong:
                self.assertEqual(self.refused(wrong), 0, wrong)
            self.assertEqual(self.refused(wrong + "\nchain"), 0, wrong)
            self.assertEqual(self.refused("chain\nways 1\n" + wrong), 2, wrong)
            self.assertEqual(self.refused("chain\n" + wrong + "\nfull oven : :\nring"), 1, wrong)

    def test_the_first_wrong_row_is_named(self):
        self.assertEqual(self.refused("chain\nway 1\nring\nfull"), 1)
        self.assertEqual(self.refused("ring\nring\nring\n\n\n"), 3)

    def test_line_feeds(self):
        self.assertEqual(self.refused("\n"), 0)
        self.assertEqual(self.refused("chain\n"), 1)
        self.assertEqual(self.refused("\nchain"), 0)
        self.assertEqual(self.refused("chain\n\nchain"), 1)

    def test_no_texts(self):
        for thing in (None, 0, True, [], ["chain"], ("chain", []), [("chain", [])], b"chain", {}, 1.5):
            self.assertEqual(self.refused(thing), 0)

    def test_told_is_new(self):
        text = "split 0 1\nfull pot 0:1 2:3"
        told = read_paper(text)
        told[0][1].append(5)
        told[1][2][0].append(5)
        told.pop()
        self.assertEqual(read_paper(text), [("split", [0, 1]), ("full", "pot", [[0], [2]], [[1], [3]])])


def chance_numbers(chance):
    return [chance.choice((0, 1, 9, 10, 59, 999999999)) for _ in range(chance.choice((0, 1, 2, 5)))]


def chance_row(chance):
    word = chance.choice(("split", "chain", "ring", "ways", "full"))
    if word == "ways":
        return ("ways", chance.choice((0, 7, 999999999)))
    if word == "full":
        many = chance.choice((0, 1, 2, 4))
        return (
            "full",
            chance_name(chance),
            [chance_numbers(chance) for _ in range(many)],
            [chance_numbers(chance) for _ in range(many)],
        )
    return (word, chance_numbers(chance))


class ByChance(unittest.TestCase):
    def test_written_and_read_again(self):
        chance = random.Random(50)
        for _ in range(2000):
            paper = [chance_row(chance) for _ in range(chance.choice((0, 1, 2, 6)))]
            text = paper_text(paper)
            self.assertEqual(read_paper(text), paper)
            self.assertEqual(paper_text(read_paper(text)), text)

    def test_marred_texts(self):
        chance = random.Random(51)
        right, wrong = 0, 0
        for _ in range(6000):
            text = paper_text([chance_row(chance) for _ in range(chance.choice((1, 2, 3)))])
            place = chance.randint(0, len(text))
            text = text[:place] + chance.choice(" ,:\n019a-") + text[place + chance.choice((0, 1)) :]
            rows = [row_by_words(row) for row in text.split("\n")]
            if None in rows and text != "":
                wrong += 1
                with self.assertRaises(NoRow) as caught:
                    read_paper(text)
                self.assertEqual(caught.exception.at, rows.index(None))
            else:
                right += 1
                self.assertEqual(read_paper(text), rows)
                self.assertEqual(paper_text(rows), text)
        self.assertGreater(right, 500)
        self.assertGreater(wrong, 500)

    def test_papers_of_the_seeker(self):
        chance = random.Random(52)
        for _ in range(60):
            paper = seek(tight_net(chance, 6), 12)[2]
            self.assertEqual(read_paper(paper_text(paper)), paper)


if __name__ == "__main__":
    unittest.main()
