"""Splitting a text into words."""

from papersat.errors import BadText


def scan(text):
    """The list of pairs (word, place of its first character)."""
    for place, char in enumerate(text):
        if not (" " <= char <= "~" or char == "\n"):
            raise BadText(place)
    pairs = []
    start = 0
    # The space behind the text ends the last word.
    for place, char in enumerate(text + " "):
        if char in " \n()":
            if start < place:
                pairs.append((text[start:place], start))
            if char in "()":
                pairs.append((char, place))
            start = place + 1
    return pairs
