"""Documents, their streams, and the markup of both."""

from stillopen.errors import BadForm, BadText
from stillopen.streams import check_prefix, check_stream
from stillopen.words import TEXT_MOST, behind_letters, is_label, is_row_of, is_sequence, is_text


def _is_text_node(value):
    """Whether any value is the node of a text."""
    return is_row_of(value, 2) and value[0] == "text" and is_text(value[1])


def _is_element_node(value):
    """Whether any value is that of an element, whatever stands in its sequence."""
    return is_row_of(value, 3) and value[0] == "element" and is_label(value[1]) and is_sequence(value[2])


def signs_of(document):
    """The stream of a document; BadForm for any value that is none."""
    if not is_sequence(document):
        raise BadForm(-1)
    signs = []
    many = 0
    # By open level what is still to be read, the next node last: no call goes deeper by levels.
    waiting = [list(reversed(document))]
    while True:
        while len(waiting[-1]) == 0:
            waiting.pop()
            if len(waiting) == 0:
                return tuple(signs)
            signs.append(("close",))
        node = waiting[-1].pop()
        if _is_text_node(node):
            signs.append(("text", node[1]))
        elif _is_element_node(node):
            signs.append(("open", node[1]))
            waiting.append(list(reversed(node[2])))
        else:
            raise BadForm(many)
        many += 1


def _nodes_of(signs):
    """The document of the signs of a stream."""
    rows = [[]]
    labels = []
    for sign in signs:
        if sign[0] == "text":
            rows[-1].append(sign)
        elif sign[0] == "open":
            labels.append(sign[1])
            rows.append([])
        else:
            inside = tuple(rows.pop())
            rows[-1].append(("element", labels.pop(), inside))
    return tuple(rows[0])


def document_of(stream):
    """The document of a stream."""
    return _nodes_of(check_stream(stream))


def check_document(value):
    """The document as tuples; BadForm for any value that is none."""
    return _nodes_of(signs_of(value))


def count_nodes(document):
    """How many nodes stand in a document, at any depth."""
    return len([sign for sign in signs_of(document) if sign[0] != "close"])


def height(document):
    """How many elements stand one within another at most."""
    level = 0
    most = 0
    for sign in signs_of(document):
        if sign[0] == "open":
            level += 1
        elif sign[0] == "close":
            level -= 1
        most = max(most, level)
    return most


def _quoted(text):
    """The markup of a text."""
    return '"' + text.replace("\\", "\\\\").replace('"', '\\"') + '"'


def _marked(signs):
    """The markup of the signs of a prefix."""
    parts = []
    labels = []
    for sign in signs:
        if sign[0] == "text":
            parts.append(_quoted(sign[1]))
        elif sign[0] == "open":
            labels.append(sign[1])
            parts.append("<" + sign[1] + ">")
        else:
            parts.append("</" + labels.pop() + ">")
    return "".join(parts)


def markup(prefix):
    """The markup of a prefix."""
    return _marked(check_prefix(prefix))


def markup_of(document):
    """The markup of a document."""
    return _marked(signs_of(document))


def _read_text(text, first):
    """(the sign of a text whose quote stands ahead of a place, the place behind), (None, first) if cut."""
    characters = []
    at = first
    while at < len(text):
        character = text[at]
        if character == '"':
            return ("text", "".join(characters)), at + 1
        if len(characters) == TEXT_MOST:
            raise BadText(at)
        if character == "\\":
            at += 1
            if at == len(text):
                break
            character = text[at]
            if character not in ("\\", '"'):
                raise BadText(at)
        characters.append(character)
        at += 1
    return None, first


def _read_opening(text, first):
    """(the sign of an opening whose label begins at a place, the place behind), (None, first) if cut."""
    at = behind_letters(text, first)
    if at == len(text):
        return None, first
    if text[at] != ">" or at == first:
        raise BadText(at)
    return ("open", text[first:at]), at + 1


def _read_closing(text, first, label):
    """(the sign of the closing of a label, which begins at a place, the place behind), (None, first) if cut."""
    rest = label + ">"
    for place, character in enumerate(rest):
        if first + place == len(text):
            return None, first
        if text[first + place] != character:
            raise BadText(first + place)
    return ("close",), first + len(rest)


def _read_sign(text, at, labels):
    """(the sign whose markup begins at a place, the place behind), None ahead of a place if it is cut off."""
    if text[at] == '"':
        return _read_text(text, at + 1)
    if text[at] != "<":
        raise BadText(at)
    if at + 1 < len(text) and text[at + 1] == "/":
        if len(labels) == 0:
            raise BadText(at + 1)
        return _read_closing(text, at + 2, labels[-1])
    return _read_opening(text, at + 1)


def markup_behind(text, outer):
    """(signs, the place behind them, the labels of the levels left open), levels of these labels being open ahead."""
    if not isinstance(text, str):
        raise BadText(-1)
    signs = []
    labels = list(outer)
    at = 0
    while at < len(text):
        sign, behind = _read_sign(text, at, labels)
        if sign is None:
            break
        if sign[0] == "open":
            labels.append(sign[1])
        elif sign[0] == "close":
            labels.pop()
        signs.append(sign)
        at = behind
    return tuple(signs), at, labels


def read_markup(text):
    """(the signs whose markup is whole from the beginning on, the place behind them)."""
    signs, behind, _ = markup_behind(text, ())
    return signs, behind


def from_text(text):
    """The document of its markup; BadText for any value that is none."""
    signs, behind, labels = markup_behind(text, ())
    if behind < len(text) or len(labels) > 0:
        raise BadText(len(text))
    return _nodes_of(signs)
