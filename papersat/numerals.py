"""Integers as texts, of any length.

Python refuses to turn integers of more than some thousand digits into texts and back at once.
Nothing is refused here, so long ones are taken in pieces.
"""

PIECE = 64
BASE = 10 ** 64


def whole_text(number):
    """The whole word of an integer."""
    if -BASE < number < BASE:
        return str(number)
    sign = "-" if number < 0 else ""
    rest = abs(number)
    pieces = []
    while rest >= BASE:
        rest, low = divmod(rest, BASE)
        pieces.append(str(low).zfill(PIECE))
    pieces.append(str(rest))
    return sign + "".join(reversed(pieces))


def read_whole(word):
    """The integer of a whole word."""
    digits = word.removeprefix("-")
    first = len(digits) % PIECE
    total = int("0" + digits[:first])
    for start in range(first, len(digits), PIECE):
        total = total * BASE + int(digits[start:start + PIECE])
    return -total if word.startswith("-") else total
