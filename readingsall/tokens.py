"""The tokens of lines (points 26 and 28 of the document)."""

from readingsall.errors import ReadingsError


class NoForm(ReadingsError):
    """A line has none of the forms."""


def split_line(line):
    """Return the list of the tokens of the line. Raises NoForm."""
    tokens = line.split(" ")
    if "" in tokens:
        raise NoForm("a token is empty")
    return tokens


def split_once(tokens, sign):
    """Return the tokens ahead of the first sign and those behind it. Raises NoForm if there is none."""
    if sign not in tokens:
        raise NoForm(f"there is no {sign}")
    place = tokens.index(sign)
    return tokens[:place], tokens[place + 1:]


def read_number(token, most):
    """Return the number that is written with at most so many digits. Raises NoForm."""
    if not 1 <= len(token) <= most or not all(["0" <= char <= "9" for char in token]):
        raise NoForm(f"{token!r} is not a number of at most {most} digits")
    if token[0] == "0" and token != "0":
        raise NoForm(f"{token!r} begins with a 0")
    return int(token)
