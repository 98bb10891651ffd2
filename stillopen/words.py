"""The plainest words of the program: numbers, sequences, labels, texts."""

LETTERS = "abcdefghijklmnopqrstuvwxyz"
LABEL_MOST = 12
TEXT_MOST = 65535


def is_number(value):
    """Whether any value is an integer from 0 on; a bool is none."""
    return isinstance(value, int) and not isinstance(value, bool) and value >= 0


def is_number_below(value, bound):
    """Whether any value is a number below this one."""
    return is_number(value) and value < bound


def is_sequence(value):
    """Whether any value is a list or a tuple."""
    return isinstance(value, (list, tuple))


def is_row_of(value, many):
    """Whether any value is a sequence of just so many parts."""
    return is_sequence(value) and len(value) == many


def is_label(value):
    """Whether any value is a string of 1 to 12 letters from a to z."""
    if not isinstance(value, str) or not 1 <= len(value) <= LABEL_MOST:
        return False
    return all(letter in LETTERS for letter in value)


def behind_letters(text, first):
    """The place behind the letters, from a place in a text on, that can stand in one label."""
    behind = first
    while behind < len(text) and text[behind] in LETTERS and behind - first < LABEL_MOST:
        behind += 1
    return behind


def is_text(value):
    """Whether any value is a string of at most 65,535 characters."""
    return isinstance(value, str) and len(value) <= TEXT_MOST
