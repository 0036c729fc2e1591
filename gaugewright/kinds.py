"""What counts as a whole number, as a number, as a name, and as a tuple of just these whole numbers."""

LETTERS = "abcdefghijklmnopqrstuvwxyz"
LONGEST_NAME = 8


def is_whole(thing):
    # True and False are ints to Python, but stand for no whole number here.
    return isinstance(thing, int) and not isinstance(thing, bool)


def is_number(thing):
    return is_whole(thing) and abs(thing) < 10 ** 60


def is_same(thing, numbers):
    # To Python (True,) equals (1,), so that a tuple is equal is not enough.
    return isinstance(thing, tuple) and all([is_whole(number) for number in thing]) and thing == numbers


def are_ends(low, high):
    return is_number(low) and is_number(high) and low <= high


def is_name(thing):
    if not isinstance(thing, str) or not 1 <= len(thing) <= LONGEST_NAME:
        return False
    # islower would let letters beyond a to z through.
    return all([sign in LETTERS for sign in thing])
