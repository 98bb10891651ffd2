"""A desk: asks the questions of some texts of one stream, and says by lines what is told of it."""

from stillopen.counts import stack_machine
from stillopen.desklines import read_line, written_number
from stillopen.documents import markup, markup_behind
from stillopen.errors import BadText, OpenError, Refused, TooGreat
from stillopen.growth import bits, counted, rests
from stillopen.idle import Idle
from stillopen.machineforms import LABELS_MOST, TEXTS_MOST, WORDS_MOST
from stillopen.pathfacts import bases, facts_for_all
from stillopen.paths import read_path
from stillopen.several import earliest_parts, sure_parts
from stillopen.streams import open_labels
from stillopen.words import is_sequence
from stillopen.world import World

STATES_MOST = 400


def _expressions_of(paths):
    """The expressions of one to eight texts."""
    if not is_sequence(paths) or not 1 <= len(paths) <= WORDS_MOST:
        raise Refused(paths)
    if not all([isinstance(path, str) for path in paths]):
        raise Refused(paths)
    expressions = [read_path(path) for path in paths]
    named = [base for expression in expressions for base in bases(expression)]
    labels = sorted(set([base[1] for base in named if base[0] == "label"]))
    texts = sorted(set([base[1] for base in named if base[0] == "text" and base[1] is not None]))
    if len(labels) > LABELS_MOST or len(texts) > TEXTS_MOST:
        raise Refused(paths)
    return expressions


def _written_word(word):
    """What is said of a word of an answer, None being one that is open."""
    if word is None:
        return "open"
    return "yes" if word else "no"


def _counter_of(machine):
    """The words machine of a machine's least stacks, None if it has too many states."""
    try:
        return stack_machine(machine, most=STATES_MOST)
    except TooGreat:
        return None


def _kinds_to(words, depth):
    """How many kinds a words machine has, of the depths 0 to this one."""
    told = rests(words)
    if told is None:
        return counted(words, depth)
    first, period, kinds = told
    return (kinds + kinds[first:] * (depth // period))[:depth + 1]


class Desk:
    """Answers lines about a stream that lines read and edit."""

    def __init__(self, paths):
        question, asked = facts_for_all(_expressions_of(paths))
        self.world = World(question, asked)
        self.idle = Idle(self.world.machine)
        self.is_counted = False
        self.counter = None

    def say(self, line):
        """Does what a line tells; what there is to say."""
        told = read_line(line) if isinstance(line, str) else None
        if told is None:
            raise BadText(0)
        try:
            return self._told_of_stream(told) if len(told) == 1 else self._done(told)
        except OpenError:
            return "refused"

    def _told_of_stream(self, told):
        """What there is to say to a line of one word."""
        word = told[0]
        world = self.world
        stack = world.keeper.stack
        if word == "told":
            return self._sure()
        if word == "first":
            known = earliest_parts(world.machine, world.signs)
            return " ".join(["-" if one is None else str(one[0]) for one in known])
        if word == "end":
            return " ".join([_written_word(one) for one in world.ends()])
        if word == "depth":
            return str(len(stack) - 1)
        if word == "kept":
            return " ".join([str(state) for state in stack])
        if word == "idle":
            level = self.idle.outermost(stack)
            return "-" if level is None else str(level)
        return bits(self._words())

    def _done(self, told):
        """What there is to say to a line of more words."""
        if told[0] == "read":
            return self._read(told[1])
        if told[0] == "edit":
            return self._edit(told[1], told[2], told[3])
        if told[0] == "ending":
            return self._ending(told[1], told[2])
        return " ".join([written_number(many) for many in _kinds_to(self._words(), told[1])])

    def _sure(self):
        """By question what is said of it."""
        return " ".join([_written_word(word) for word in sure_parts(self.world.machine, self.world.keeper.stack)])

    def _words(self):
        """The words machine of least stacks; TooGreat if it has too many states."""
        if not self.is_counted:
            self.counter = _counter_of(self.world.machine)
            self.is_counted = True
        if self.counter is None:
            raise TooGreat(STATES_MOST)
        return self.counter

    def _read(self, text):
        """Reads the signs of markup all at once."""
        signs, bad = _signs_behind(self.world.signs, text)
        if signs is None:
            return "bad " + str(bad)
        self.world.read_piece(signs)
        return self._sure()

    def _edit(self, first, behind, text):
        """Puts the signs of markup in the place of those from a place up to ahead of another one."""
        if not first <= behind <= len(self.world.signs):
            raise Refused(behind)
        signs, bad = _signs_behind(self.world.signs[:first], text)
        if signs is None:
            return "bad " + str(bad)
        self.world.edit(first, behind, signs)
        return self._sure()

    def _ending(self, place, word):
        """The markup of some ending of fewest signs by which the question at a place has this answer."""
        world = self.world
        if place >= len(world.machine[2][4][0]):
            raise Refused(place)
        told = world.telling.ways.endings(world.keeper.stack)
        found = [signs for answer, signs in told.items() if answer[place] == word]
        if len(found) == 0:
            return "-"
        signs = min(found, key=len)
        return markup(world.signs + signs)[len(markup(world.signs)):] if len(signs) > 0 else "."


def _signs_behind(ahead, text):
    """(the signs of markup that stands behind a prefix, None), or (None, the place at which it is none)."""
    try:
        signs, behind, _ = markup_behind(text, open_labels(ahead))
    except BadText as wrong:
        return None, wrong.at
    if behind < len(text):
        return None, len(text)
    return signs, None
