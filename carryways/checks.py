"""What kinds of values there are: the questions that the checks of all modules ask."""


def is_whole(value):
    """Whether any object is a whole number."""
    # Python counts True and False among the integers.
    return isinstance(value, int) and not isinstance(value, bool)


def is_count(value):
    """Whether any object is a whole number of at least 0."""
    return is_whole(value) and value >= 0


def is_count_below(value, bound):
    """Whether any object is a count below a bound."""
    return is_count(value) and value < bound


def are_whole(value, many):
    """Whether any object is a list of just so many whole numbers."""
    return isinstance(value, list) and len(value) == many and all([is_whole(number) for number in value])


def is_base(value):
    """Whether any object is a base: one thing must be worth more than one of the box below."""
    return is_whole(value) and value >= 2


def are_bases(value):
    """Whether any object is a list of bases."""
    return isinstance(value, list) and all([is_base(base) for base in value])


def are_counts(value, many):
    """Whether any object is a list of just so many counts."""
    return isinstance(value, list) and len(value) == many and all([is_count(count) for count in value])


def are_counts_within(value, rooms):
    """Whether any object is a list of counts, one for each room, none above its room."""
    return are_counts(value, len(rooms)) and all([count <= room for count, room in zip(value, rooms)])


def is_tuple_of(value, many):
    """Whether any object is a tuple of just so many things."""
    return isinstance(value, tuple) and len(value) == many


def is_dictionary_over(value, keys):
    """Whether any object is a dictionary whose keys are just those of another one: tuples of counts."""
    if not isinstance(value, dict) or len(value) != len(keys):
        return False
    # Python takes True for 1, also within keys.
    return all([isinstance(key, tuple) and all([is_count(part) for part in key]) and key in keys for key in value])


def is_just(value, told):
    """Whether any object is what is told: a word, a whole number, or a tuple of such, kind by kind."""
    # Python's == takes True for 1, also within tuples.
    if isinstance(told, tuple):
        return is_tuple_of(value, len(told)) and all([is_just(one, other) for one, other in zip(value, told)])
    if isinstance(told, str):
        return isinstance(value, str) and value == told
    return is_whole(value) and value == told
