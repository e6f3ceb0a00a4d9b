"""Texts of houses, rows and chains: each reader takes just what the writer beside it makes."""

from carryways.checks import are_bases, are_counts, is_count, is_tuple_of
from carryways.errors import InvalidChain, InvalidRows, InvalidText
from carryways.figures import are_figures, counts_of, line_of, lines_of, words_of
from carryways.houses import House, check_house
from carryways.rows import DOWN, UP


def house_text(house):
    """The text of a house."""
    check_house(house)
    return "\n".join([line_of(["bases"] + words_of(house.bases())), line_of(["rooms"] + words_of(house.rooms()))])


def read_house(text):
    """The house that a text is one of."""
    house = house_of_lines(lines_to_read(text))
    # What may be read in some way is no text of a house yet: the writer tells.
    if house is None or house_text(house) != text:
        raise InvalidText(text)
    return house


def lines_to_read(text):
    """The lines of a text; raises InvalidText unless this is a string."""
    if not isinstance(text, str):
        raise InvalidText(text)
    return lines_of(text)


def house_of_lines(lines):
    """The house of two lines, None if there is none."""
    if len(lines) != 2:
        return None
    bases, rooms = [line.split(" ")[1:] for line in lines]
    if not are_figures(bases + rooms) or not are_bases(counts_of(bases)) or len(rooms) != len(bases) + 1:
        return None
    return House(counts_of(bases), counts_of(rooms))


def are_rows(value):
    """Whether any object is a list of lists, not empty, of counts."""
    if not isinstance(value, list) or not all([isinstance(row, list) for row in value]):
        return False
    return all([len(row) > 0 and are_counts(row, len(row)) for row in value])


def rows_text(rows):
    """The text of rows of whatever houses."""
    if not are_rows(rows):
        raise InvalidRows(rows)
    return "\n".join([line_of(words_of(row)) for row in rows])


def read_rows(text):
    """The rows that a text is one of."""
    words = [line.split(" ") for line in lines_to_read(text)]
    if not all([are_figures(row) for row in words]):
        raise InvalidText(text)
    rows = [counts_of(row) for row in words]
    if rows_text(rows) != text:
        raise InvalidText(text)
    return rows


def is_deed_by_form(value):
    """Whether any object is a deed of some house: a tuple of its word and a count."""
    if not is_tuple_of(value, 2):
        return False
    word, place = value
    return word in (DOWN, UP) and is_count(place)


def deed_words(deed):
    """The list of the words of a deed."""
    word, place = deed
    return [word, str(place)]


def chain_text(deeds):
    """The text of deeds of whatever houses."""
    if not isinstance(deeds, list) or not all([is_deed_by_form(deed) for deed in deeds]):
        raise InvalidChain(deeds)
    return "\n".join([line_of(deed_words(deed)) for deed in deeds])


def read_chain(text):
    """The deeds that a text is one of."""
    words = [line.split(" ") for line in lines_to_read(text)]
    if not all([len(line) == 2 and are_figures(line[1:]) for line in words]):
        raise InvalidText(text)
    deeds = [(line[0], int(line[1])) for line in words]
    if not all([is_deed_by_form(deed) for deed in deeds]) or chain_text(deeds) != text:
        raise InvalidText(text)
    return deeds
