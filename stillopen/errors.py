"""The errors of this program; each keeps what it was made with in the attribute of that name."""


class OpenError(ValueError):
    """The base of the errors that tell of a wrong value."""


class BadOctets(OpenError):
    """No octets: -1 for no sequence, else the first item that is none."""

    def __init__(self, at):
        self.at = at


class BadForm(OpenError):
    """No document: -1 for no sequence, else how many nodes begin ahead of the wrong one."""

    def __init__(self, at):
        self.at = at


class BadSign(OpenError):
    """No sign: -1 for a wrong shape, else the part that is wrong."""

    def __init__(self, at):
        self.at = at


class BadStream(OpenError):
    """No prefix, stream or ending: -1 for no sequence, else the sign that cannot stand."""

    def __init__(self, at):
        self.at = at


class BadQuestion(OpenError):
    """No question: -1 for a wrong shape, else the first fact that is none."""

    def __init__(self, at):
        self.at = at


class BadMachine(OpenError):
    """No machine: -1 for a wrong shape, else the part that is wrong."""

    def __init__(self, at):
        self.at = at


class BadText(OpenError):
    """No text of the form that is read: -1 for no string, else the first wrong place."""

    def __init__(self, at):
        self.at = at


class Refused(OpenError):
    """An argument that cannot be taken, which is kept itself."""

    def __init__(self, at):
        self.at = at


class TooGreat(OpenError):
    """There is more than was allowed."""

    def __init__(self, most):
        self.most = most


class Broken(OpenError):
    """Octets that are no form, and the place where they stop to be one."""

    def __init__(self, at):
        self.at = at


class NoFact(KeyError):
    """A value that is no number of a fact."""

    def __init__(self, value):
        self.value = value


class NoState(KeyError):
    """A value that is no state."""

    def __init__(self, value):
        self.value = value


class NoLabel(KeyError):
    """A value that is no label that is named."""

    def __init__(self, value):
        self.value = value
