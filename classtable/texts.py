"""The digits of whole numbers, and reading them back."""

# Python writes no number of more than some thousand digits at once, so great ones are written in pieces.
_PIECE = 10 ** 64
_PIECE_DIGITS = 64

MOST_DIGITS = 900


def digits(n):
    """The digits of n, with a minus sign in front if it is negative."""
    if -_PIECE < n < _PIECE:
        return str(n)
    pieces = []
    rest = abs(n)
    while rest >= _PIECE:
        pieces.append(str(rest % _PIECE).zfill(_PIECE_DIGITS))
        rest = rest // _PIECE
    pieces.append(f"-{rest}" if n < 0 else str(rest))
    return "".join(pieces[::-1])


def number_of(word):
    """The integer of at most 900 digits that is written so, or None."""
    bare = word.removeprefix("-")
    if not bare.isascii() or not bare.isdigit() or len(bare) > MOST_DIGITS:
        return None
    n = int(word)
    return n if digits(n) == word else None


def is_word(value, most):
    """True if the value is a string of 1 to so many small letters from a to z."""
    return isinstance(value, str) and 1 <= len(value) <= most and all(["a" <= c <= "z" for c in value])
