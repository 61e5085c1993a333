"""The refusals: each right under PlaceError, none under another one.

None of them writes its fields out: they may be made of things that can't be
written, such as a number of very many figures.
"""


class PlaceError(ValueError):
    """Something was refused."""


class NoText(PlaceError):
    """A text that should be read is none of its kind."""


class NoDeed(PlaceError):
    """What should be done is no deed."""


class NoBack(PlaceError):
    """The told edition is the first one: there is none to go back to."""


class NoLine(PlaceError):
    """What is said to a desk is none of its rows."""


class NoRow(PlaceError):
    """A row of a text, counted from 0, is none of its kind."""

    def __init__(self, at):
        self.at = at


class BadName(PlaceError):
    """A name of a list of machines' names, counted from 0, is wrong."""

    def __init__(self, at):
        self.at = at


class BadBerths(PlaceError):
    """A machine with its berths, counted from 0, is wrong."""

    def __init__(self, at):
        self.at = at


class BadAsked(PlaceError):
    """A wish that is asked, counted from 0, is wrong."""

    def __init__(self, at):
        self.at = at


class BadShare(PlaceError):
    """A group with its share, counted from 0, is wrong."""

    def __init__(self, at):
        self.at = at


class BadRow(PlaceError):
    """A happening of a turn, counted from 0, is wrong."""

    def __init__(self, at):
        self.at = at


class Unknown(PlaceError):
    """There is none of this name."""

    def __init__(self, name):
        self.name = name


class Known(PlaceError):
    """There is one of this name already, or was."""

    def __init__(self, name):
        self.name = name


class Used(PlaceError):
    """What should end is still used, first of all by the one of this name."""

    def __init__(self, name):
        self.name = name


class TooMany(PlaceError):
    """There are as many as there may be at most."""

    def __init__(self, most):
        self.most = most


class NoRoom(PlaceError):
    """The greatest demands, so many of them as first tells, are more than there is room for."""

    def __init__(self, first, demanded, room):
        self.first = first
        self.demanded = demanded
        self.room = room


class Early(PlaceError):
    """The store's last lease runs until this turn."""

    def __init__(self, until):
        self.until = until
