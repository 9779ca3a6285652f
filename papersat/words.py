"""Names and number words."""

RESERVED = (
    "truth", "whole", "ratio", "true", "false", "not", "and", "or", "imply", "if", "distinct", "let",
)


def is_name(text):
    """True if the text is a name that is not reserved."""
    if text in RESERVED or not text.isascii():
        return False
    return text[:1].isalpha() and text.replace("_", "a").isalnum()


def is_whole_word(text):
    """True for `0` and for digits that do not begin with 0, with or without a minus sign."""
    if text == "0":
        return True
    if text.startswith("-"):
        return _is_positive_word(text[1:])
    return _is_positive_word(text)


def is_ratio_word(text):
    """True for a whole word, a slash and digits that do not begin with 0."""
    above, _, below = text.partition("/")
    return is_whole_word(above) and _is_positive_word(below)


def _is_positive_word(text):
    return text.isascii() and text.isdigit() and not text.startswith("0")
