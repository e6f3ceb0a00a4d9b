"""Points [2], [108] and [109]: the functions of carryways.papers."""

import re
import unittest

from carryways.errors import InvalidChain, InvalidHouse, InvalidRows, InvalidText
from carryways.houses import House
from carryways.papers import chain_text, house_text, read_chain, read_house, read_rows, rows_text
from tests.support import (
    Argument, check_fresh, check_leaves_arguments, check_wrong_arguments, expect_error, loose, no_houses, odd_objects,
    small_houses, snapshot,
)

COUNT = "(?:0|[1-9][0-9]*)"
ROWS = [[[4, 1, 1], [0]], [], [[0]], [[0, 0, 10 ** 29]], [[10, 0, 20], [1, 0], [7]], [[60] * 8] * 12]
CHAINS = [[("up", 0), ("down", 1)], [], [("up", 10)], [("down", 10 ** 29), ("down", 0)], [("up", 0), ("up", 0)]]
HOUSES = small_houses() + [House([60] * 7, [60] * 8), House([10, 20], [10, 0, 100]), House([2], [10 ** 29, 0])]


def is_house_text(text):
    if not re.fullmatch(f"bases(?: {COUNT})*\nrooms(?: {COUNT})*", text):
        return False
    bases, rooms = [line.split(" ")[1:] for line in text.split("\n")]
    return len(rooms) == len(bases) + 1 and all(int(base) > 1 for base in bases)


def is_rows_text(text):
    return text == "" or re.fullmatch(f"{COUNT}(?:[ \n]{COUNT})*", text) is not None


def is_chain_text(text):
    deed = f"(?:up|down) {COUNT}"
    return text == "" or re.fullmatch(f"{deed}(?:\n{deed})*", text) is not None


def bent_texts(text):
    """Texts with a sign more, another one or one less at each place, a line more or less, other ends of lines."""
    found = [text + "\n", "\n" + text, text.replace("\n", "\r\n"), text.replace(" ", "  "), text.upper(), text + "\r"]
    for at in range(len(text) + 1):
        found += [text[:at] + sign + text[at:] for sign in (" ", "0", "1", "-", "\n", "\t", "+", "_", "u", ".0", " 2")]
        found += [text[:at] + text[at + 1:]] + [text[:at] + sign + text[at + 1:] for sign in (" ", "\n", "0", "1", "p")]
    lines = text.split("\n")
    for at in range(len(lines)):
        found += ["\n".join(lines[:at] + lines[at + 1:]), "\n".join(lines[:at] + [""] + lines[at:])]
        found += ["\n".join(lines[:at] + lines[at:][::-1]), "\n".join(lines[:at + 1] + lines[at:])]
        found += ["\n".join(lines[:at] + [more] + lines[at:]) for more in ("bases", "rooms 1", "up 0", "up", "0", "-1")]
    return found


class Papers(unittest.TestCase):
    def check_pair(self, writer, reader, things, texts):
        for thing, text in zip(things, texts):
            self.assertEqual(check_leaves_arguments(self, writer, thing), text)
            self.assertEqual(snapshot(check_leaves_arguments(self, reader, text)), snapshot(thing))

    def check_bent(self, writer, reader, is_text, texts, many):
        read = 0
        for text in sorted({late for text in texts for late in bent_texts(text)}):
            if is_text(text):
                self.assertEqual(writer(reader(text)), text)
                read += 1
            else:
                expect_error(self, InvalidText, text, reader, text)
        self.assertGreater(read, many)

    def check_no_texts(self, reader, texts):
        for wrong in odd_objects() + [0, 1, [], (), ["up 0"], ("up 0",), [("up", 0)], [[4, 1, 1]], loose()] + texts:
            if wrong != "" or reader is read_house:
                expect_error(self, InvalidText, wrong, reader, wrong)
                expect_error(self, InvalidText, wrong, reader, text=wrong)

    def test_houses(self):
        texts = ["\n".join([" ".join(["bases"] + [str(base) for base in house.bases()]),
                            " ".join(["rooms"] + [str(room) for room in house.rooms()])]) for house in HOUSES]
        self.check_pair(house_text, read_house, HOUSES, texts)
        self.check_bent(house_text, read_house, is_house_text, texts[:3] + texts[6:12], 100)
        self.check_no_texts(read_house, [
            "bases", "rooms 5", "bases\nrooms", "bases 2\nrooms 5", "bases\nrooms 5 5", "bases 1\nrooms 5 5",
            "bases 0\nrooms 5 5",
            "bases -2\nrooms 5 5", "bases 2\nrooms 5 -5", "bases 2\nrooms 05 5", "bases 02\nrooms 5 5",
            "bases 2\nrooms 5 5\n",
            "\nbases 2\nrooms 5 5", "rooms 5 5\nbases 2", "bases 2 rooms 5 5", "bases 2\n rooms 5 5",
            " bases 2\nrooms 5 5",
            "bases 2 \nrooms 5 5", "bases  2\nrooms 5 5", "bases 2\nrooms 5 5 ", "base 2\nroom 5 5",
            "Bases 2\nrooms 5 5",
            "bases 2\n\nrooms 5 5", "bases 2\r\nrooms 5 5", "bases\t2\nrooms 5 5", "bases 2\nrooms 5 five", "2\n5 5",
            "4 1 1",
            "bases +2\nrooms 5 5", "bases 2\nrooms 5 5\nrooms 5 5", "bases 2\nbases 5 5", "rooms 2\nrooms 5 5",
            "bases \nrooms 5"])

    def test_rows(self):
        texts = ["\n".join(" ".join(str(count) for count in row) for row in rows) for rows in ROWS]
        self.check_pair(rows_text, read_rows, ROWS, texts)
        self.check_bent(rows_text, read_rows, is_rows_text, texts[:5], 100)
        self.check_no_texts(read_rows, [
            " ", "\n", "1\n", "\n1", "1\n\n1", "01", "00", "-1", "+1", "1  2", " 1", "1 ", "1\t2", "1\r\n2", "one",
            "1_0", "1.0",
            "up 0", "bases\nrooms 5", "0x1", "1,2", "[1]"])

    def test_chains(self):
        texts = ["\n".join(f"{word} {place}" for word, place in chain) for chain in CHAINS]
        self.check_pair(chain_text, read_chain, CHAINS, texts)
        self.check_bent(chain_text, read_chain, is_chain_text, texts, 80)
        self.check_no_texts(read_chain, [
            " ", "\n", "up", "down", "up 0\n", "\nup 0", "up 0\n\nup 0", "up 01", "up -1", "up +1", "up  0", " up 0",
            "up 0 ",
            "up 0 0", "Up 0", "UP 0", "left 0", "0 up", "0", "up\t0", "up 0\r\nup 0", "up zero", "up0", "up 1_0",
            "4 1 1"])

    def test_wrong_arguments(self):
        check_wrong_arguments(self, house_text, Argument("house", loose(), InvalidHouse, no_houses()))
        rows = odd_objects() + [
            0, 1, (), ([4, 1, 1],), [4, 1, 1], [()], [(4, 1, 1)], [[]], [[4, 1, 1], []], [[4, -1]], [[True]],
            [[4, False]],
            [[None]], [["4"]], [[[4]]], [None], ["4"], {0: [4]}, [{4: 1}], [[4], loose()], [[4, loose()]],
            [[4], True], "4 1 1"]
        check_wrong_arguments(self, rows_text, Argument("rows", ROWS[0], InvalidRows, rows))
        deeds = odd_objects() + [
            0, 1, (), ("up", 0), (("up", 0),), ["up", 0], [["up", 0]], [("up",)], [("up", 0, 0)], [("up", -1)],
            [("up", True)],
            [("up", False)], [("up", None)], [("up", "0")], [("Up", 0)], [("", 0)], [(None, 0)], [(0, "up")],
            [(("up",), 0)],
            [(["up"], 0)], [("up", [0])], [(loose(), 0)], [None], [("up", 0), None], ["up 0"], {("up", 0): 1}, "up 0"]
        check_wrong_arguments(self, chain_text, Argument("deeds", CHAINS[0], InvalidChain, deeds))

    def test_fresh(self):
        for text in ("4 1 1\n0", "0", ""):
            check_fresh(self, read_rows, text)
        for text in ("up 0\ndown 1", ""):
            check_fresh(self, read_chain, text)
        house = read_house("bases 3 2\nrooms 4 3 2")
        house.bases().append(7)
        house.rooms()[0] = 9
        self.assertEqual([house, house_text(house)], [loose(), "bases 3 2\nrooms 4 3 2"])


if __name__ == "__main__":
    unittest.main()
