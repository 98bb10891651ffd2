"""Signs, and the octets that they are written as."""

from stillopen.errors import BadOctets, BadSign, BadStream, Broken, Refused
from stillopen.words import LABEL_MOST, LETTERS, is_label, is_number, is_number_below, is_sequence, is_text

CHARACTERS = "abcdefghijklmnopqrstuvwxyzABCDEFGHIJKLMNOPQRSTUVWXYZ0123456789 .,:;!?()<>/=+*&#-_'\"\\\n"

CLOSE_CODE = 0
OPEN_CODE = 1
TEXT_CODE = 2


def _sign_fault(value):
    """What BadSign tells of a value, None of a sign."""
    if not is_sequence(value) or len(value) == 0:
        return -1
    if value[0] == "close" and len(value) == 1:
        return None
    if len(value) != 2:
        return -1
    if value[0] == "open":
        return None if is_label(value[1]) else 1
    if value[0] == "text":
        return None if is_text(value[1]) else 1
    return -1


def is_sign(value):
    """Whether any value is a sign."""
    return _sign_fault(value) is None


def check_sign(value):
    """The sign as a tuple; BadSign for any value that is none."""
    fault = _sign_fault(value)
    if fault is not None:
        raise BadSign(fault)
    return tuple(value)


def _form_of(sign):
    """The form of a sign, None if a character of its text has no code."""
    if sign[0] == "close":
        return (CLOSE_CODE,)
    if sign[0] == "open":
        return (OPEN_CODE, len(sign[1])) + tuple([LETTERS.find(letter) for letter in sign[1]])
    codes = [CHARACTERS.find(character) for character in sign[1]]
    if -1 in codes:
        return None
    return (TEXT_CODE, len(codes) // 256, len(codes) & 255) + tuple(codes)


def sign_octets(sign):
    """The form of a sign."""
    form = _form_of(check_sign(sign))
    if form is None:
        raise Refused(sign)
    return form


def write_signs(signs):
    """The forms of signs, one behind another."""
    if not is_sequence(signs):
        raise BadStream(-1)
    octets = []
    for at, sign in enumerate(signs):
        form = _form_of(sign) if is_sign(sign) else None
        if form is None:
            raise BadStream(at)
        octets.extend(form)
    return tuple(octets)


def _check_octets(value):
    """Octets as a tuple; BadOctets for any value that is none."""
    if not is_sequence(value):
        raise BadOctets(-1)
    for at, octet in enumerate(value):
        if not is_number_below(octet, 256):
            raise BadOctets(at)
    return tuple(value)


def _head_at(octets, at):
    """(where the codes of the form at a place begin, where they end), None if this is cut off."""
    here = octets[at:at + 3]
    if len(here) == 0:
        return None
    if here[0] == CLOSE_CODE:
        return at + 1, at + 1
    if here[0] == OPEN_CODE:
        if len(here) == 1:
            return None
        if not 1 <= here[1] <= LABEL_MOST:
            raise Broken(at + 1)
        return at + 2, at + 2 + here[1]
    if here[0] != TEXT_CODE:
        raise Broken(at)
    if len(here) < 3:
        return None
    return at + 3, at + 3 + here[1] * 256 + here[2]


def _part_at(octets, at):
    """(the sign whose form begins at a place, the place behind), (None, at) if it is cut off."""
    head = _head_at(octets, at)
    if head is None:
        return None, at
    first, behind = head
    alphabet = LETTERS if octets[at] == OPEN_CODE else CHARACTERS
    codes = octets[first:behind]
    for place, code in enumerate(codes):
        if code >= len(alphabet):
            raise Broken(first + place)
    if len(octets) < behind:
        return None, at
    if octets[at] == CLOSE_CODE:
        return ("close",), behind
    word = "open" if octets[at] == OPEN_CODE else "text"
    return (word, "".join([alphabet[code] for code in codes])), behind


def sign_at(octets, at):
    """(the sign whose form begins at this place, the place behind it)."""
    checked = _check_octets(octets)
    if not is_number(at):
        raise Refused(at)
    sign, behind = _part_at(checked, at)
    if sign is None:
        raise Broken(len(checked))
    return sign, behind


def read_signs(octets):
    """(the signs that are whole from the beginning on, the place behind them)."""
    checked = _check_octets(octets)
    signs = []
    sign, behind = _part_at(checked, 0)
    while sign is not None:
        signs.append(sign)
        sign, behind = _part_at(checked, behind)
    return tuple(signs), behind


def healing(octets):
    """The fewest octets, of these the least, that make octets whole forms."""
    checked = _check_octets(octets)
    _, behind = read_signs(checked)
    rest = checked[behind:]
    if len(rest) == 0:
        return ()
    head = ()
    if rest == (OPEN_CODE,):
        head = (1,)
    elif rest[0] == TEXT_CODE:
        head = (0,) * (3 - len(rest))
    _, end = _head_at(rest + head, 0)
    return head + (0,) * (end - len(rest) - len(head))
