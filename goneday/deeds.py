"""Names, rules and deeds, and which deeds go together."""

from goneday.days import is_day, is_whole

LETTERS = "abcdefghijklmnopqrstuvwxyz"
UNITS = ("days", "months", "years")
LONGEST_NAME = 8
MOST_MAKERS = 4
MOST_MANY = 999


def is_tuple_of(thing, length):
    """Tell whether a thing of any kind is a tuple with so many parts."""
    return isinstance(thing, tuple) and len(thing) == length


def is_name(thing):
    """Tell whether a thing of any kind is a name."""
    if not isinstance(thing, str) or not 1 <= len(thing) <= LONGEST_NAME:
        return False
    return all([sign in LETTERS for sign in thing])


def is_since(thing):
    """Tell whether a thing of any kind tells since when a rule reckons."""
    if is_tuple_of(thing, 1):
        return thing[0] == "coming"
    if is_tuple_of(thing, 2):
        return thing[0] in ("first", "last") and is_name(thing[1])
    return False


def is_span(many, unit):
    """Tell whether two things of any kind tell how many of which unit."""
    return is_whole(many) and 0 <= many <= MOST_MANY and unit in UNITS


def is_rule(thing):
    """Tell whether a thing of any kind is a rule's word and parts."""
    if is_tuple_of(thing, 2):
        return thing[0] in ("while", "follow", "leave") and is_name(thing[1])
    if is_tuple_of(thing, 5):
        named = thing[0] in ("keep", "gone") and is_name(thing[1])
        return named and is_since(thing[2]) and is_span(thing[3], thing[4])
    return False


def is_makers(thing):
    """Tell whether a thing of any kind is a rising tuple of unlike names."""
    if not isinstance(thing, tuple) or len(thing) > MOST_MAKERS:
        return False
    if not all([is_name(name) for name in thing]):
        return False
    return all([thing[place - 1] < thing[place] for place in range(1, len(thing))])


def is_target(thing):
    """Tell whether a thing of any kind tells what a hold is over."""
    return is_tuple_of(thing, 2) and thing[0] in ("paper", "kind") and is_name(thing[1])


def are_parts(word, parts):
    """Tell whether a deed of this word may go on with these parts behind its name."""
    if word in ("end", "lift"):
        return len(parts) == 0
    if word in ("happens", "leave"):
        return len(parts) == 1 and is_name(parts[0])
    if word == "rule":
        return len(parts) == 1 and is_rule(parts[0])
    if word == "paper":
        return len(parts) == 2 and is_name(parts[0]) and is_makers(parts[1])
    if word == "hold":
        return len(parts) == 2 and is_target(parts[0]) and isinstance(parts[1], bool)
    return False


def is_deed(thing):
    """Tell whether a thing of any kind is a deed."""
    if not isinstance(thing, tuple) or len(thing) < 3:
        return False
    return is_day(thing[1]) and is_name(thing[2]) and are_parts(thing[0], thing[3:])


def quarrel(one, other):
    """Tell whether two deeds quarrel."""
    if one == other:
        return True
    if one[2] != other[2]:
        return False
    for word in ("paper", "leave"):
        if one[0] == word and other[0] == word:
            return True
    for words in (("rule", "end"), ("hold", "lift")):
        if one[0] in words and other[0] in words:
            return one[1] == other[1]
    return False


def go_together(deeds):
    """Tell whether no two of the deeds quarrel."""
    for place in range(len(deeds)):
        if any([quarrel(other, deeds[place]) for other in deeds[:place]]):
            return False
    return True
