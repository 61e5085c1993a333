"""Things of every kind, for where something is told of whatever is handed in."""


class Unequal:
    """A thing that can't be compared, written or kept by a dict."""

    __hash__ = None

    def __eq__(self, other):
        raise AssertionError("compared")

    def __lt__(self, other):
        raise AssertionError("compared")

    def __len__(self):
        raise AssertionError("measured")

    def __bool__(self):
        raise AssertionError("asked for its truth")

    def __str__(self):
        raise AssertionError("written")


def deep(many):
    """A list within a list, so many within one another."""
    thing = []
    for _ in range(many):
        thing = [thing]
    return thing


def odd_things():
    """Things that are neither words nor numbers nor texts of anything, nor lists that are right."""
    return [
        None, True, False, 1.0, float("nan"), 2j, b"", b"web", bytearray(b"web"), (), (()), ((),), {}, {"a": 1},
        set(), frozenset(["web"]), object(), Unequal(), len, int, deep(49), tuple(deep(48)), range(3), iter([1]),
        Ellipsis, NotImplemented, ValueError("web"),
    ]
