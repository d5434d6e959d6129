"""The errors that the program raises."""


class ReadingsError(ValueError):
    """The base class of all errors of the program."""


class BadName(ReadingsError):
    """A string is not what is asked for: a name, letters or a gloss."""


class BadGrammar(ReadingsError):
    """Something breaks a limit or a condition for grammars."""


class Duplicate(ReadingsError):
    """Something is there already, or stands twice."""


class Unknown(ReadingsError):
    """A category or an attribute is not one of the grammar."""


class BadText(ReadingsError):
    """A string is not a text."""


class BadForest(ReadingsError):
    """The entries are not a forest."""


class NoReading(ReadingsError):
    """There is no such reading or tree."""


class NoGrowth(ReadingsError):
    """The grammar would not grow, because of a seam and the text of a morph."""

    def __init__(self, seam, text):
        super().__init__(f"the grammar would not grow by the seam {seam} and the morph {text}")
        self.seam = seam
        self.text = text


class Ring(ReadingsError):
    """The grammar would have a ring, a list of labels."""

    def __init__(self, ring):
        # The message holds no list: a later change of the caller's list must not show in it.
        super().__init__(f"the grammar would have a ring of {len(ring)} labels")
        self.ring = list(ring)


class BadLine(ReadingsError):
    """The line with this index, from 0, cannot be read."""

    def __init__(self, line):
        super().__init__(f"the line with the index {line} cannot be read")
        self.line = line
