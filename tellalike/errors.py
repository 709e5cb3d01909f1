"""The errors of this package: TellError and its direct subclasses."""


class TellError(Exception):
    """The base class of the errors of this package."""


class BadConcept(TellError):
    """A value that is not a concept."""

    def __init__(self, thing):
        self.thing = thing


class BadBook(TellError):
    """A value that is not a book."""

    def __init__(self, thing):
        self.thing = thing


class BadVocabulary(TellError):
    """A value that is not a vocabulary."""

    def __init__(self, thing):
        self.thing = thing


class BadText(TellError):
    """A text that cannot be read, and the position or line where it goes wrong."""

    def __init__(self, at):
        self.at = at


class BadWorld(TellError):
    """A value that is not a world."""

    def __init__(self, thing):
        self.thing = thing


class BadLines(TellError):
    """A value that is not the lines of a derivation."""

    def __init__(self, thing):
        self.thing = thing


class BadThing(TellError):
    """A value that is not a thing of its world, or of its data."""

    def __init__(self, thing):
        self.thing = thing


class BadFiller(TellError):
    """A value that is not a filler of its book."""

    def __init__(self, thing):
        self.thing = thing


class NotIn(TellError):
    """A concept that is not in the vocabulary, or in which none occurs."""

    def __init__(self, thing):
        self.thing = thing


class TooMany(TellError):
    """A number that the document bounds is above its bound."""

    def __init__(self, bound):
        self.bound = bound


class BadState(TellError):
    """A value that is not a state."""

    def __init__(self, thing):
        self.thing = thing


class BadData(TellError):
    """A value that is not data."""

    def __init__(self, thing):
        self.thing = thing


class BadView(TellError):
    """A value that is not a view."""

    def __init__(self, thing):
        self.thing = thing


class BadEditions(TellError):
    """A value that is not editions."""

    def __init__(self, thing):
        self.thing = thing


class BadPart(TellError):
    """A value that is not a part of its book."""

    def __init__(self, thing):
        self.thing = thing


class BadNumber(TellError):
    """A value that is not an integer from 0 on."""

    def __init__(self, thing):
        self.thing = thing


class BadDeed(TellError):
    """A value that is not a deed that can be done."""

    def __init__(self, thing):
        self.thing = thing


class BadWord(TellError):
    """A value that has no mark."""

    def __init__(self, thing):
        self.thing = thing


class NothingToUndo(TellError):
    """No deed is done that could be undone."""


class NothingToRedo(TellError):
    """No deed is undone that could be redone."""
