"""Whether a table of a text is complete (point 20 of the document)."""

from readingsall.chart import table


def accepts(grammar, words, pair):
    """Return True if the pair is the table of the words, otherwise False."""
    # There is only one table of the words, and it has one order.
    return pair == table(grammar, words)
