"""The lines that a desk is told: what forms they have, and how numbers are written."""

FIGURES = "0123456789"
FIGURES_MOST = 6
LONE = ("told", "first", "end", "depth", "kept", "idle", "bits")
ANSWERS = ("no", "yes")
# Of how many bits a number can be that Python surely writes at once.
BITS_MOST = 13000
PART_FIGURES = 64


def _number(word):
    """The number that a word of a line is, None if it is none."""
    if not 1 <= len(word) <= FIGURES_MOST or not all([figure in FIGURES for figure in word]):
        return None
    return None if word[0] == "0" and len(word) > 1 else int(word)


def read_line(line):
    """The (word, what is told by it, ..) of a line, None if it has no form."""
    if line in LONE:
        return (line,)
    if line.startswith("read "):
        return "read", line[len("read "):]
    words = line.split(" ")
    numbers = [_number(word) for word in words[1:3]]
    if words[0] == "kinds" and len(words) == 2 and numbers[0] is not None:
        return "kinds", numbers[0]
    if words[0] == "ending" and len(words) == 3 and numbers[0] is not None and words[2] in ANSWERS:
        return "ending", numbers[0], words[2] == "yes"
    if words[0] == "edit" and len(words) >= 3 and None not in numbers:
        return "edit", numbers[0], numbers[1], " ".join(words[3:])
    return None


def written_number(number):
    """The figures of a number, however great."""
    parts = []
    step = 10 ** 64
    rest = number
    while rest.bit_length() > BITS_MOST:
        parts.append(str(rest % step).zfill(PART_FIGURES))
        rest = rest // step
    return str(rest) + "".join(list(reversed(parts)))
