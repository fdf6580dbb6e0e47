"""What several tests share: deeds of every word, and things that are of no use."""

import random

KEEP = ("keep", "mail", ("coming",), 5, "days")
GONE = ("gone", "mail", ("first", "read"), 2, "months")

RULES = (
    KEEP,
    ("keep", "mail", ("first", "read"), 0, "months"),
    ("keep", "mail", ("last", "read"), 999, "years"),
    ("gone", "mail", ("coming",), 1, "years"),
    GONE,
    ("gone", "abcdefgh", ("last", "abcdefgh"), 998, "days"),
    ("while", "mail"),
    ("follow", "mail"),
    ("leave", "mail"),
)

DEEDS = (
    ("paper", 0, "a", "mail", ()),
    ("paper", 3, "b", "mail", ("a",)),
    ("paper", 99999, "abcdefgh", "k", ("a", "aa", "b", "z")),
    ("happens", 7, "a", "read"),
    ("rule", 4, "r", KEEP),
    ("end", 5, "r"),
    ("hold", 6, "h", ("paper", "a"), True),
    ("hold", 6, "i", ("kind", "mail"), False),
    ("lift", 8, "h"),
    ("leave", 9, "l", "mail"),
)

# Nothing here is a name, a day, a word, a truth or a part of a deed.
NO_PARTS = (
    None,
    -1,
    1000000,
    "",
    "A",
    "ninesigns",
    "a b",
    "a1",
    "a\n",
    " a",
    [],
    {},
    ["a"],
    {"a": "b"},
    ((),),
    ([],),
    ({},),
    ([["a"]], {"a": [{}]}),
    (None, ("a", [])),
)


def shuffled(deeds, seed):
    """The same deeds in another order, always the same one for one seed."""
    others = list(deeds)
    random.Random(seed).shuffle(others)
    return tuple(others)


def replaced(thing, part):
    """Each thing that comes of a tuple where one place in it, at any depth, is the part."""
    for place, old in enumerate(thing):
        yield thing[:place] + (part,) + thing[place + 1:]
        if isinstance(old, tuple):
            for other in replaced(old, part):
                yield thing[:place] + (other,) + thing[place + 1:]


def reshaped(thing):
    """Each thing that comes of a tuple where it, or one within it, has a part more or fewer, or is a list."""
    yield list(thing)
    yield thing + ("a",)
    yield thing + (0,)
    if thing:
        yield thing[:-1]
        yield thing[1:]
    for place, old in enumerate(thing):
        if isinstance(old, tuple):
            for other in reshaped(old):
                yield thing[:place] + (other,) + thing[place + 1:]
