"""Scripts: lists of commands that are carried out on a yard, their texts, and what of them is needed."""

from carryways.errors import (
    InvalidDeed, InvalidNumber, InvalidPlace, InvalidRow, InvalidScript, InvalidSpot, InvalidText, NothingToRedo,
    NothingToUndo, Refused,
)
from carryways.figures import lines_of
from carryways.houses import check_house
from carryways.lines import TRY, is_script, script_lines, script_of_lines
from carryways.yard import THINGS, Yard, carry_out, check_yard, copied


def check_script(script):
    """Raises InvalidScript unless this is a script."""
    if not is_script(script):
        raise InvalidScript(script)


def play(yard, script):
    """Carries a script out on a yard, and returns what is said: a list with a tuple for each command."""
    check_yard(yard)
    check_script(script)
    return played(yard, script)


def played(yard, script):
    """What is said of each command of a script that is carried out."""
    return [said_of(yard, command) for command in script]


def said_of(yard, command):
    """What is said of a command that is carried out."""
    if command[0] == TRY:
        return tried(yard, command[1])
    try:
        told = told_by(yard, command)
    except InvalidRow:
        return refused("InvalidRow")
    except InvalidSpot:
        return refused("InvalidSpot")
    except InvalidDeed:
        return refused("InvalidDeed")
    except InvalidPlace:
        return refused("InvalidPlace")
    except InvalidNumber:
        return refused("InvalidNumber")
    except Refused:
        return refused("Refused")
    except NothingToUndo:
        return refused("NothingToUndo")
    except NothingToRedo:
        return refused("NothingToRedo")
    if told is None:
        return ("done",)
    return ("put", told) if command[0] == "put" else ("told", told)


def refused(word):
    """What is said of a command whose call raises an error of a class."""
    return ("refused", word)


def tried(yard, script):
    """What is said of a try, which leaves no trace."""
    with yard.trial():
        return ("tried", played(yard, script))


def told_by(yard, command):
    """What the method of the yard that has the name of a command returns."""
    word = command[0]
    if word in THINGS:
        return carry_out(yard, command)
    if word == "row_there":
        return yard.row_there(command[1])
    if word == "deeds_there":
        return yard.deeds_there(command[1])
    if word == "is_met":
        return yard.is_met(command[1])
    if word == "alike_spots":
        return yard.alike_spots(command[1])
    if word == "farthest_spots":
        return yard.farthest_spots()
    return yard.undo() if word == "undo" else yard.redo()


def script_text(script):
    """The text of a script."""
    check_script(script)
    return "\n".join(script_lines(script))


def read_script(text):
    """The script that a text is one of."""
    script = script_of_lines(lines_of(text)) if isinstance(text, str) else None
    # What may be read in some way is no text of a script yet: the writer tells.
    if not is_script(script) or script_text(script) != text:
        raise InvalidText(text)
    return script


def end_of_played(house, script):
    """The dictionary from the spots at the end of a script on a new yard to the rows and aims there."""
    yard = Yard(house)
    played(yard, script)
    return {spot: (yard.row_there(spot), yard.aim_there(spot)) for spot in yard.spots()}


def end_of(house, script):
    """The dictionary from the spots at the end of a script on a new yard to the tuples of row and aim there."""
    check_house(house)
    check_script(script)
    return end_of_played(house, script)


def shortened(house, script):
    """The script without each command, gone through from the last one, without which the end is the same."""
    end = end_of(house, script)
    left = copied(script)
    for at in range(len(script) - 1, -1, -1):
        without = left[:at] + left[at + 1:]
        if end_of_played(house, without) == end:
            left = without
    return left
