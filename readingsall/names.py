"""Names, glosses, letters, forms and texts (point 3 of the document)."""

from readingsall.errors import BadText

LONGEST_NAME = 12
LONGEST_GLOSS = 20


def is_letter(char):
    return "a" <= char <= "z"


def is_name(text):
    """Return True if the string is a name, otherwise False."""
    if not 1 <= len(text) <= LONGEST_NAME:
        return False
    return is_letter(text[0]) and all(is_letter(char) or "0" <= char <= "9" for char in text)


def is_gloss(text):
    """Return True if the string is a gloss, otherwise False."""
    return 1 <= len(text) <= LONGEST_GLOSS and all(is_gloss_character(char) for char in text)


def is_gloss_character(char):
    return is_letter(char) or "A" <= char <= "Z" or "0" <= char <= "9" or char in ".-"


def is_letters(text, least, most):
    """Return True if the string consists of letters, at least and at most so many, otherwise False."""
    return least <= len(text) <= most and all(is_letter(char) for char in text)


def is_form(text):
    """Return True if the string is a form, otherwise False."""
    return text != "" and all(is_letter(char) for char in text)


def split_text(text):
    """Return the list of the forms of the text. Raises BadText if the string is not a text."""
    # Split at its spaces, the empty string would give one empty form.
    if text == "":
        return []
    words = text.split(" ")
    for word in words:
        if not is_form(word):
            raise BadText(f"{word!r} is not a form")
    return words


def join_words(words):
    """Return the text of the words."""
    return " ".join(words)
