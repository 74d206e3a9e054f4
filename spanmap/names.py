"""What a name is: of marks, of a bundle, of the desk's lines."""

LETTERS = "abcdefghijklmnopqrstuvwxyz"
MOST_LETTERS = 8


def is_name(thing):
    if not isinstance(thing, str):
        return False
    if len(thing) < 1 or len(thing) > MOST_LETTERS:
        return False
    return all([sign in LETTERS for sign in thing])
