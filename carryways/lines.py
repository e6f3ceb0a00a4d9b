"""Scripts by their form, and the lines of their texts."""

from carryways.checks import are_counts, is_count, is_whole
from carryways.figures import are_figures, counts_of, is_figures, line_of, words_of
from carryways.papers import deed_words, is_deed_by_form

COUNT = "count"
NUMBER = "number"
ROW = "row"
DEED = "deed"

TRY = "try"
END = "end"

# The kinds of things behind the word of each command but a try.
KINDS = {
    "put": ("row",), "take": ("count",), "make": ("count", "deed"), "go": ("count", "row"), "lower": ("count",),
    "lift": ("count",), "come": ("count", "count", "number"), "aim": ("count", "row"), "let_go": ("count",),
    "pour": ("count", "count"), "row_there": ("count",), "deeds_there": ("count",), "is_met": ("count",),
    "alike_spots": ("count",), "farthest_spots": (), "undo": (), "redo": (),
}


def is_thing(kind, value):
    """Whether any object is of a kind of things behind the word of a command."""
    if kind == COUNT:
        return is_count(value)
    if kind == NUMBER:
        return is_whole(value)
    if kind == DEED:
        return is_deed_by_form(value)
    return isinstance(value, list) and len(value) > 0 and are_counts(value, len(value))


def is_command(value):
    """Whether any object is a command by its form."""
    if not isinstance(value, tuple) or len(value) == 0 or not isinstance(value[0], str):
        return False
    word, things = value[0], value[1:]
    if word == TRY:
        return len(things) == 1 and is_script(things[0])
    if word not in KINDS or len(things) != len(KINDS[word]):
        return False
    return all([is_thing(kind, thing) for kind, thing in zip(KINDS[word], things)])


def is_script(value):
    """Whether any object is a script."""
    return isinstance(value, list) and all([is_command(command) for command in value])


def words_of_thing(kind, thing):
    """The list of the words of a thing behind the word of a command."""
    if kind == ROW:
        return words_of(thing)
    return deed_words(thing) if kind == DEED else [str(thing)]


def command_line(command):
    """The line of a command that is no try."""
    words = [command[0]]
    for kind, thing in zip(KINDS[command[0]], command[1:]):
        words.extend(words_of_thing(kind, thing))
    return line_of(words)


def script_lines(script):
    """The list of the lines of a script."""
    lines = []
    for command in script:
        if command[0] == TRY:
            lines.append(TRY)
            lines.extend(["  " + line for line in script_lines(command[1])])
            lines.append(END)
        else:
            lines.append(command_line(command))
    return lines


def thing_of(kind, words):
    """The thing at the head of words with the words behind it, None if there is none of its kind."""
    if kind == ROW:
        return (counts_of(words), []) if are_figures(words) else None
    if kind == DEED:
        return ((words[0], int(words[1])), words[2:]) if len(words) > 1 and is_figures(words[1]) else None
    if words == [] or not is_figures(words[0].removeprefix("-")):
        return None
    return (int(words[0]), words[1:])


def command_of(words):
    """The command of the words of a line, whatever stands there too much, None if there is none."""
    if words == [] or words[0] not in KINDS:
        return None
    things = []
    left = words[1:]
    for kind in KINDS[words[0]]:
        found = thing_of(kind, left)
        if found is None:
            return None
        thing, left = found
        things.append(thing)
    return (words[0], *things)


def script_of_lines(lines):
    """What lines tell, whatever blanks stand there: a script, or None or a list with None in it if they are of none."""
    scripts = [[]]
    for line in lines:
        words = line.split()
        if words == [TRY]:
            scripts.append([])
        elif words == [END] and len(scripts) > 1:
            inner = scripts.pop()
            scripts[-1].append((TRY, inner))
        else:
            scripts[-1].append(command_of(words))
    return scripts[0] if len(scripts) == 1 else None
