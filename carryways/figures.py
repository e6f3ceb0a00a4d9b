"""Counts in figures, in the lines of texts."""

FIGURES = "0123456789"


def is_figures(word):
    """Whether a word is a count in figures."""
    return word != "" and all([sign in FIGURES for sign in word])


def are_figures(words):
    """Whether all of some words are counts in figures."""
    return all([is_figures(word) for word in words])


def words_of(counts):
    """The list of the words of counts."""
    return [str(count) for count in counts]


def counts_of(words):
    """The counts of words in figures."""
    return [int(word) for word in words]


def line_of(words):
    """The line of words, each behind a blank but the first."""
    return " ".join(words)


def lines_of(text):
    """The list of the lines of a text; the empty text has none."""
    return text.split("\n") if text != "" else []
