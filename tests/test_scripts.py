"""Points [2] and [105] to [107]: carryways.scripts."""

import random
import re
import unittest

from carryways.errors import InvalidHouse, InvalidScript, InvalidText, InvalidYard
from carryways.houses import House
from carryways.scripts import end_of, play, read_script, script_text, shortened
from carryways.yard import Yard, replayed
from tests.support import (
    Argument, bent, check_fresh, check_leaves_arguments, check_wrong_arguments, expect_error, kinds_changed, loose,
    no_houses, no_yards, odd_objects, snapshot, spoil, tight,
)
from tests.yards import PlainYard, Wrong, check_same, drawn

HOUSES = [loose(), tight(), House([2, 2], [4, 3, 2]), House([], [5]), House([2, 3], [5, 2, 1]), House([3], [7, 2])]
DAY = [
    ("put", [4, 1, 1]), ("make", 0, ("up", 0)), ("make", 0, ("up", 2)), ("try", [("lift", 0), ("row_there", 0)]),
    ("come", 0, 0, -2), ("is_met", 0), ("farthest_spots",), ("undo",),
]
ASKED = ("row_there", "deeds_there", "is_met", "alike_spots", "farthest_spots")


def said_by(plain, script):
    """What is said of a script on a plain yard."""
    said = []
    for word, *things in script:
        if word == "try":
            kept = plain.kept()
            said.append(("tried", said_by(plain, things[0])))
            plain.put_back(kept)
            continue
        try:
            told = plain.ask(word, *things) if word in ASKED else plain.do(word, *things)
        except Wrong as wrong:
            said.append(("refused", wrong.error.__name__))
            continue
        said.append(("done",) if told is None else ("put" if word == "put" else "told", told))
    return said


def end_by(house, script):
    """What stands at the spots at the end of a script on a plain yard."""
    plain = PlainYard(house)
    said_by(plain, script)
    return {spot: (row, aim) for spot, (row, aim) in sorted(plain.there()[0].items())}


def is_of_form(command):
    """Whether a command that was drawn may stand in a script."""
    word, *things = command
    if word in ("put", "undo", "redo"):
        return True
    spot = things[0]
    return type(spot) is int and spot >= 0 and things[1:] != ["up"]


def script_drawn(chance, house, many, depth=0):
    """A script of commands that are drawn as they come on a yard, with tries within tries."""
    plain, script = PlainYard(house), []
    for _ in range(many):
        command = drawn(chance, plain)
        if depth < 3 and chance.random() < 0.2:
            command = ("try", script_drawn(chance, house, chance.randint(0, 4), depth + 1))
        elif chance.random() < 0.25:
            command = (chance.choice(ASKED[:4]), chance.randint(0, 2)) if chance.random() < 0.8 else ("farthest_spots",)
        if command[0] in ASKED or command[0] == "try" or is_of_form(command):
            script.append(command)
            said_by(plain, [command])
    return script


def scripts():
    """Houses, each with a script."""
    found = [(loose(), DAY), (loose(), []), (loose(), [("try", [("try", [("try", [("try", [])])])])])]
    for seed in range(150):
        chance, house = random.Random(seed), HOUSES[seed % len(HOUSES)]
        found.append((house, script_drawn(chance, house, chance.randint(3, 12))))
    return found


SCRIPTS = scripts()


def wrong_command():
    """Objects that are no command of a script."""
    found = odd_objects() + [
        0, 1, (), [], ("put",), ("put", 0), ("put", []), ("put", (4, 1, 1)), ("put", [4, 1, 1], 0), ["put", [4, 1, 1]],
        ("put", [-1]), ("put", [True]), ("put", [None]), ("put", ["1"]), ("put", [[1]]), ("put", None), ("Put", [1]),
        ("take",), ("take", -1), ("take", True), ("take", None), ("take", "0"), ("take", 0, 0), ("take", [0]),
        ("make", 0), ("make", 0, "up"), ("make", 0, ["up", 0]), ("make", 0, ("up",)), ("make", 0, ("up", -1)),
        ("make", 0, ("up", True)), ("make", 0, ("Up", 0)), ("make", 0, ("up", 0, 0)), ("make", -1, ("up", 0)),
        ("make", ("up", 0), 0), ("make", 0, "up", 0), ("make", 0, (0, "up")), ("make", 0, None), ("make", 0, (None, 0)),
        ("go", 0), ("go", 0, 0), ("go", 0, []), ("go", [1], 0), ("go", False, [1]), ("go", 0, [1], 1), ("go", 0, [-1]),
        ("lower",), ("lower", None), ("lower", 0, 0), ("lift", -1), ("lift",), ("lift", False),
        ("come", 0, 0), ("come", 0, 0, None), ("come", 0, 0, True), ("come", 0, -1, 1), ("come", -1, 0, 1),
        ("come", 0, True, 1), ("come", 0, 0, "1"), ("come", 0, 0, 1, 1), ("come", 0, (0, 1)),
        ("aim", 0), ("aim", 0, None), ("aim", 0, []), ("aim", 0, [1, True]), ("let_go",), ("let_go", -1),
        ("let_go", 0, 0),
        ("pour", 0), ("pour", 0, -1), ("pour", 0, True), ("pour", 0, 0, 0), ("pour", None, 0),
        ("row_there",), ("row_there", -1), ("row_there", 0, 0), ("deeds_there", None), ("is_met",), ("is_met", True),
        ("alike_spots",), ("alike_spots", [0]), ("farthest_spots", 0), ("undo", 0), ("redo", None), ("undo", []),
        ("try",), ("try", None), ("try", ()), ("try", [], []), ("try", [("try", None)]), ("try", [("put",)]),
        ("try", ("undo",)), ("try", ["undo"]), ["undo"], "undo", "", ("",), ("undo ",), (None,), (True,), (0,),
        (["put"], [1]), (("put",), [1]), ({}, [1]), (loose(), [1]), ("aim_there", 0), ("way", 0), ("spots",),
        ("record",),
        ("trial", []), ("end",), ("is_way", 0, []), ("house",), ("copy",),
    ]
    return found


def wrong_scripts():
    found = [0, 1, (), ("undo",), (("undo",),), ["undo"], {0: ("undo",)}, [["undo"]], [[("undo",)]], tuple(DAY)]
    return odd_objects() + found + [[wrong] for wrong in wrong_command()] + [
        [("undo",), wrong, ("redo",)] for wrong in wrong_command()[::3]] + [
        [("try", [("try", [("undo",), wrong])])] for wrong in wrong_command()[::3]]


class Play(unittest.TestCase):
    """[105]"""

    def test_against_a_plain_yard(self):
        for house, script in SCRIPTS:
            yard, plain = Yard(house), PlainYard(house)
            ahead = snapshot(script)
            said, wanted = play(yard, script), said_by(plain, script)
            self.assertEqual([snapshot(said), snapshot(script)], [snapshot(wanted), ahead])
            check_same(self, yard, plain)
            # On a yard that was used already, too.
            yard = replayed(yard, [])
            self.assertEqual(snapshot(play(yard, script[::-1])), snapshot(said_by(plain, script[::-1])))
            check_same(self, yard, plain)

    def test_all_that_can_be_said(self):
        said = [part for house, script in SCRIPTS for part in said_by(PlainYard(house), script)]
        self.assertEqual({part[0] for part in said}, {"put", "told", "tried", "done", "refused"})
        self.assertEqual({part[1] for part in said if part[0] == "refused"}, {
            "InvalidRow", "InvalidSpot", "InvalidDeed", "InvalidPlace", "InvalidNumber", "Refused", "NothingToUndo",
            "NothingToRedo"})

    def test_what_is_said(self):
        script = [("put", [4, 1, 1]), ("go", 0, [1, 0, 2]), ("row_there", 0), ("deeds_there", 0), ("is_met", 0),
                  ("alike_spots", 0), ("farthest_spots",), ("come", 0, 0, 0), ("undo",), ("redo",), ("redo",),
                  ("take", 0),
                  ("farthest_spots",), ("row_there", 0), ("try", []), ("put", [9]), ("come", 5, 9, 0)]
        self.assertEqual(play(Yard(loose()), script), [
            ("put", 0), ("told", 2), ("told", [1, 0, 2]), ("told", [("down", 1)]), ("told", True), ("told", []),
            ("told", [0]),
            ("refused", "InvalidNumber"), ("done",), ("done",), ("refused", "NothingToRedo"), ("done",), ("told", []),
            ("refused", "InvalidSpot"), ("tried", []), ("refused", "InvalidRow"), ("refused", "InvalidSpot")])

    def test_tries_leave_no_trace(self):
        script = [("put", [4, 1, 1]), ("lift", 0), ("undo",), ("try", [
            ("redo",), ("row_there", 0), ("try", [("undo",), ("undo",), ("undo",), ("put", [0, 0, 0]),
            ("put", [0, 0, 1])]),
            ("row_there", 0), ("take", 0)]), ("redo",), ("row_there", 0), ("put", [0, 0, 0])]
        self.assertEqual(play(Yard(loose()), script), [
            ("put", 0), ("done",), ("done",), ("tried", [
                ("done",), ("told", [1, 0, 2]),
                ("tried", [("done",), ("done",), ("refused", "NothingToUndo"), ("put", 0), ("put", 1)]),
                ("told", [1, 0, 2]), ("done",)]), ("done",), ("told", [1, 0, 2]), ("put", 1)])

    def test_wrong_arguments(self):
        yard = Yard(loose())
        play(yard, DAY)
        for wrong in no_yards():
            for script in wrong_scripts()[::4] + [DAY]:
                expect_error(self, InvalidYard, wrong, play, wrong, script)
            expect_error(self, InvalidYard, wrong, play, yard=wrong, script=DAY)
        record = yard.record()
        for wrong in wrong_scripts():
            expect_error(self, InvalidScript, wrong, play, yard, wrong)
            expect_error(self, InvalidScript, wrong, play, yard=yard, script=wrong)
            expect_error(self, InvalidScript, wrong, script_text, wrong)
        # Nothing of a wrong script is carried out.
        script = DAY + [("put",)]
        expect_error(self, InvalidScript, script, play, yard, script)
        self.assertEqual([yard.record(), yard.spots()], [record, [0]])


def text_by(script, ahead=""):
    """The text of a script by the words of [106]: the list of its lines."""
    lines = []
    for word, *things in script:
        words = [word]
        if word == "try":
            lines += [ahead + "try"] + text_by(things[0], ahead + "  ") + [ahead + "end"]
            continue
        for thing in things:
            words += [str(part) for part in thing] if isinstance(thing, (list, tuple)) else [str(thing)]
        lines.append(ahead + " ".join(words))
    return lines


COUNT = "(?:0|[1-9][0-9]*)"
LINE = re.compile(
    f"put(?: {COUNT})+|(?:take|lower|lift|let_go|row_there|deeds_there|is_met|alike_spots) {COUNT}"
    f"|make {COUNT} (?:up|down) {COUNT}|(?:go|aim) {COUNT}(?: {COUNT})+|come {COUNT} {COUNT} (?:0|-?[1-9][0-9]*)"
    f"|pour {COUNT} {COUNT}|farthest_spots|undo|redo")


def is_text_by(text):
    """Whether a text is of the form of [106], line by line."""
    depth = 0
    for line in text.split("\n") if text else []:
        left = line.lstrip(" ")
        depth -= left == "end"
        if depth < 0 or line != "  " * depth + left:
            return False
        depth += left == "try"
        if left not in ("try", "end") and not LINE.fullmatch(left):
            return False
    return depth == 0


def bent_texts(text):
    """Texts with a sign more, another one or one less at each place, a line more or less, other ends of lines."""
    found = []
    for at in range(len(text) + 1):
        found += [text[:at] + sign + text[at:] for sign in (" ", "0", "1", "-", "\n", "\t", "+", "_", "u", "  ",
            "\nend\n")]
        found += [text[:at] + text[at + 1:], text[:at] + " " + text[at + 1:], text[:at] + "\n" + text[at + 1:]]
    lines = text.split("\n")
    for at in range(len(lines)):
        found += ["\n".join(lines[:at] + lines[at + 1:]), "\n".join(lines[:at] + [""] + lines[at:])]
        found += ["\n".join(lines[:at] + [more] + lines[at:]) for more in ("try", "end", "undo", "  undo", "try\nend",
            "Undo")]
        found += ["\n".join(lines[:at] + ["  " + lines[at]] + lines[at + 1:])]
        found += ["\n".join(lines[:at] + [lines[at].strip()] + lines[at + 1:])]
    return found + [text.replace("\n", "\r\n"), text.upper(), text.replace(" ", "  "), text + "\r"]


class Texts(unittest.TestCase):
    """[106]"""

    def test_against_texts_by_hand(self):
        for _, script in SCRIPTS:
            text = check_leaves_arguments(self, script_text, script)
            self.assertEqual(text, "\n".join(text_by(script)))
            self.assertEqual(snapshot(check_leaves_arguments(self, read_script, text)), snapshot(script))

    def test_great_numbers(self):
        script = [("come", 10 ** 29, 10 ** 29, -10 ** 29), ("put", [10 ** 29] * 12), ("make", 0, ("down", 10 ** 29)),
                  ("come", 0, 0, 0)]
        self.assertEqual(read_script(script_text(script)), script)
        self.assertEqual(script_text(script[3:]), "come 0 0 0")

    def test_bent_texts(self):
        read, texts = 0, {script_text(script) for _, script in SCRIPTS[:3] + SCRIPTS[3:60:6]}
        texts |= {"", "try\nend", "undo", "put 10 0 20", "come 0 1 -10", "try\n  try\n    redo\n  end\nend\naim 1 0 10"}
        for text in sorted(texts):
            for late in bent_texts(text):
                if is_text_by(late):
                    script = read_script(late)
                    self.assertEqual(script_text(script), late)
                    read += 1
                else:
                    expect_error(self, InvalidText, late, read_script, late)
        self.assertGreater(read, 300)

    def test_texts_of_other_forms(self):
        for text in (" ", "\n", "end", "try", "end\ntry", "try\nundo\nend", "try\n  undo\n  end", "try\n   undo\nend",
            "undo\n",
                     "\nundo", "undo\n\nredo", "undo ", " undo", "put", "put ", "put 01", "put 1  2", "put -1",
                     "put +1",
                     "take", "take 0 1", "take -0", "come 0 0 -0", "come 0 0 --1", "come 0 0 -", "come 0 0 01",
                     "come 0 -1 1",
                     "come -1 0 1", "make 0 up", "make 0 up 0 0", "make 0 Up 0", "make 0 0 up", "make up 0", "go 0",
                     "aim 0",
                     "go", "pour 0", "pour 0 1 2", "farthest_spots 0", "undo 0", "Try\nend", "try 0\nend", "try\nend 0",
                     "try\nend\nend", "put 1\tundo", "put\t1", "put 1\r\nundo", "way 0", "spots", "aim_there 0",
                     "take 1_0",
                     "take 0x1", "take one", "try end", "try\n  end"):
            expect_error(self, InvalidText, text, read_script, text)

    def test_other_objects(self):
        for wrong in odd_objects() + [0, 1, [], (), ["undo"], [("undo",)], ("undo",), DAY]:
            if wrong != "":
                expect_error(self, InvalidText, wrong, read_script, wrong)
                expect_error(self, InvalidText, wrong, read_script, text=wrong)
        self.assertEqual([read_script(""), script_text([]), script_text(script=DAY)], [[], "", "\n".join(text_by(DAY))])


class Ends(unittest.TestCase):
    """[107]"""

    def test_end_of(self):
        for house, script in SCRIPTS:
            told = check_leaves_arguments(self, end_of, house, script)
            self.assertEqual(list(told.items()), list(end_by(house, script).items()))
        self.assertEqual(snapshot(end_of(loose(), [("put", [4, 1, 1]), ("aim", 0, [1, 0, 2])])),
                         snapshot({0: ([4, 1, 1], [1, 0, 2])}))

    def test_shortened(self):
        shorter = 0
        for house, script in SCRIPTS[::2]:
            left, at = list(script), len(script) - 1
            while at >= 0:
                if end_by(house, left[:at] + left[at + 1:]) == end_by(house, script):
                    del left[at]
                at -= 1
            told = check_leaves_arguments(self, shortened, house, script)
            self.assertEqual(snapshot(told), snapshot(left))
            self.assertEqual(end_of(house, told), end_of(house, script))
            shorter += len(told) < len(script)
        self.assertGreater(shorter, 50)

    def test_the_last_ones_go_first(self):
        twice = [("put", [4, 1, 1]), ("aim", 0, [4, 1, 1]), ("aim", 0, [4, 1, 1]), ("lift", 0), ("go", 0, [4, 1, 1])]
        # The last command is needed as long as the one ahead of it is there, and is not gone through again.
        self.assertEqual(shortened(loose(), twice), [twice[0], twice[1], twice[4]])
        self.assertEqual(shortened(loose(), [("put", [4, 1, 1]), ("undo",)]), [("undo",)])
        self.assertEqual(shortened(loose(), [("put", [4, 1, 1])] * 2 + [("undo",)] * 2), [("undo",)] * 2)
        self.assertEqual(shortened(loose(), [("put", [0, 0, 0]), ("put", [0, 0, 0]), ("take", 0)]),
                         [("put", [0, 0, 0]), ("put", [0, 0, 0]), ("take", 0)])
        self.assertEqual(shortened(loose(), [("try", [("put", [0, 0, 0])]), ("put", [4, 1, 1]), ("is_met", 0)]),
                         [("put", [4, 1, 1])])

    def test_wrong_arguments(self):
        house = Argument("house", loose(), InvalidHouse, no_houses())
        script = Argument("script", DAY, InvalidScript, wrong_scripts())
        check_wrong_arguments(self, end_of, house, script)
        script.wrong = script.wrong[::3]
        check_wrong_arguments(self, shortened, house, script)


class Fresh(unittest.TestCase):
    def test_fresh(self):
        script = [("put", [4, 1, 1]), ("aim", 0, [1, 0, 2]), ("try", [("lift", 0)]), ("make", 0, ("up", 0))]
        check_fresh(self, end_of, loose(), script)
        check_fresh(self, shortened, loose(), script)
        check_fresh(self, shortened, loose(), [("put", [4, 1, 1])])
        check_fresh(self, read_script, script_text(DAY))
        check_fresh(self, read_script, "")
        yard, script = Yard(loose()), [("put", [4, 1, 1]), ("row_there", 0), ("deeds_there", 0), ("farthest_spots",)]
        spoil(play(yard, script))
        spoil(script)
        self.assertEqual([yard.row_there(0), yard.record()], [[4, 1, 1], [("put", [4, 1, 1])]])

    def test_scripts_of_other_kinds(self):
        for at, command in enumerate(DAY):
            for odd in kinds_changed(command):
                script = DAY[:at] + [odd] + DAY[at + 1:]
                if type(odd) is tuple and odd[:1] == ("put",) and type(odd[1]) is list and all(
                        type(count) is int for count in odd[1]):
                    continue
                expect_error(self, InvalidScript, script, end_of, loose(), script)
        for script in bent(DAY, [None, [], (), "undo", ["undo"]]):
            expect_error(self, InvalidScript, script, script_text, script)


if __name__ == "__main__":
    unittest.main()
