"""Things that are kept for later: numbers, truths, texts, None, and tuples, lists and dicts of such things."""


def thing_copied(thing):
    """A thing anew, with all lists and dicts within it, so that it shares nothing that may be changed."""
    if isinstance(thing, tuple):
        return tuple([thing_copied(each) for each in thing])
    if isinstance(thing, list):
        return [thing_copied(each) for each in thing]
    if isinstance(thing, dict):
        return {key: thing_copied(each) for key, each in thing.items()}
    return thing
