"""The refusals of calmcuts: each has its class's name as `called`."""

# No `__init__` here calls the one of Python's error above it: an error's making already keeps what it was made with,
# and so it can be shown and copied like any other.


class CutError(ValueError):
    """What was handed in is refused."""

    def __init__(self):
        self.called = self.__class__.__name__


class BadPart(CutError):
    """A part would have nought below."""


class BadBox(CutError):
    """A thing is no box, or no box has such numbers."""


class BadWeight(CutError):
    """A thing is no weight, or no list of weights."""


class BadSide(CutError):
    """A thing is no side."""


class BadSizes(CutError):
    """A thing is no sizes, tree, kept rows or count of squares that may be there."""


class BadBound(CutError):
    """A thing is no bound."""


class BadName(CutError):
    """A thing is no name."""


class BadPlace(CutError):
    """A thing is no place in a nest."""


class BadDeed(CutError):
    """A thing is no deed."""


class BadText(CutError):
    """A text isn't of its form; `at` is the number, from 0, of the line that isn't."""

    def __init__(self, at):
        CutError.__init__(self)
        self.at = at


class Taken(CutError):
    """Something has the name `name` already."""

    def __init__(self, name):
        CutError.__init__(self)
        self.name = name


class Full(CutError):
    """There is no room for more; `what` tells of what there are enough."""

    def __init__(self, what):
        CutError.__init__(self)
        self.what = what


class NotEmpty(CutError):
    """The nest `name` has children."""

    def __init__(self, name):
        CutError.__init__(self)
        self.name = name


class Within(CutError):
    """The nest `name` would go into itself."""

    def __init__(self, name):
        CutError.__init__(self)
        self.name = name


class Missing(LookupError):
    """What is asked for by `name` isn't there."""

    def __init__(self, name):
        self.called = self.__class__.__name__
        self.name = name


class NoName(Missing):
    """Nothing fit has the name `name`."""


class NoNest(Missing):
    """No nest has the name `name`."""


class Bare(Missing):
    """What has the name `name` has no weight, and so no box."""


class NothingLeft(IndexError):
    """There is nothing to take back, or nothing to do again."""

    def __init__(self):
        self.called = self.__class__.__name__
