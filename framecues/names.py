"""Names of things, and of players: a transition's is a tuple."""

from framecues.ratios import is_whole


def is_word(thing, words):
    """Whether thing is one of these strings."""
    return isinstance(thing, str) and thing in words


def is_name(thing):
    """Whether thing is a string of 1 to 12 letters a to z."""
    if not isinstance(thing, str) or len(thing) > 12:
        return False
    return thing.isascii() and thing.isalpha() and thing.islower()


def is_player_name(thing):
    """Whether thing is a name or the tuple that names a transition."""
    if not isinstance(thing, tuple):
        return is_name(thing)
    if len(thing) != 4 or not is_word(thing[0], ("way",)):
        return False
    return is_name(thing[1]) and is_name(thing[2]) and is_whole(thing[3]) and thing[3] >= 0
