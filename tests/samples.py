"""What several tests share: deeds of every word, and things that are of no use."""

import random

KEEP = ("keep", "mail", ("coming",), 5, "days")
GONE = ("gone", "mail", ("first", "read"), 2, "months")

RULES = (
    KEEP,
    ("keep", "mail", ("first", "read"), 0, "months"),
    ("keep", "mail", ("last", "read"), 999, "years"),
    ("gone", "mail", ("coming",), 1, "years"),
    GONE,
    ("gone", "abcdefgh", ("last", "abcdefgh"), 998, "days"),
    ("while", "mail"),
    ("follow", "mail"),
    ("leave", "mail"),
)

DEEDS = (
    ("paper", 0, "a", "mail", ()),
    ("paper", 3, "b", "mail", ("a",)),
    ("paper", 99999, "abcdefgh", "k", ("a", "aa", "b", "z")),
    ("happens", 7, "a", "read"),
    ("rule", 4, "r", KEEP),
    ("end", 5, "r"),
    ("hold", 6, "h", ("paper", "a"), True),
    ("hold", 6, "i", ("kind", "mail"), False),
    ("lift", 8, "h"),
    ("leave", 9, "l", "mail"),
)

# Nothing here is a name, a day, a word, a truth or a part of a deed.
NO_PARTS = (
    None,
    -1,
    1000000,
    "",
    "A",
    "ninesigns",
    "a b",
    "a1",
    "a\n",
    " a",
    [],
    {},
    ["a"],
    {"a": "b"},
    ((),),
    ([],),
    ({},),
    ([["a"]], {"a": [{}]}),
    (None, ("a", [])),
)


def shuffled(deeds, seed):
    """The same deeds in another order, always the same one for one seed."""
    others = list(deeds)
    random.Random(seed).shuffle(others)
    return tuple(others)


def in_all_orders(deeds):
    """The same deeds in several orders."""
    return [deeds, deeds[::-1]] + [shuffled(deeds, seed) for seed in range(8)]


def replaced(thing, part):
    """Each thing that comes of a tuple where one place in it, at any depth, is the part."""
    for place, old in enumerate(thing):
        yield thing[:place] + (part,) + thing[place + 1:]
        if isinstance(old, tuple):
            for other in replaced(old, part):
                yield thing[:place] + (other,) + thing[place + 1:]


def reshaped(thing):
    """Each thing that comes of a tuple where it, or one within it, has a part more or fewer, or is a list."""
    yield list(thing)
    yield thing + ("a",)
    yield thing + (0,)
    if thing:
        yield thing[:-1]
        yield thing[1:]
    for place, old in enumerate(thing):
        if isinstance(old, tuple):
            for other in reshaped(old):
                yield thing[:place] + (other,) + thing[place + 1:]


def random_rule(dice):
    """The parts of some rule, of few kinds and happenings, so that many meet."""
    word = dice.choice(("keep", "gone", "keep", "gone", "while", "follow", "leave"))
    kind = dice.choice(("k", "m"))
    if word not in ("keep", "gone"):
        return (word, kind)
    since = dice.choice((("coming",), ("first", "read"), ("last", "read"), ("last", "sent")))
    return (word, kind, since, dice.choice((0, 1, 3, 9)), dice.choice(("days", "days", "days", "months", "years")))


def random_deed(dice):
    """Some deed of the first days, of few names, so that many meet."""
    day = dice.randint(0, 12)
    word = dice.choice(("paper",) * 3 + ("happens", "rule") * 2 + ("end", "hold", "lift", "leave"))
    paper = dice.choice("abcdef")
    if word == "paper":
        makers = tuple(sorted(dice.sample("abcdefg", dice.randint(0, 4))))
        return (word, day, paper, dice.choice(("k", "m")), makers)
    if word == "happens":
        return (word, day, paper, dice.choice(("read", "sent")))
    if word == "rule":
        return (word, day, dice.choice("qrs"), random_rule(dice))
    if word == "hold":
        target = dice.choice((("paper", paper), ("kind", dice.choice(("k", "m")))))
        return (word, day, dice.choice("hi"), target, dice.choice((True, False)))
    if word == "leave":
        return (word, day, dice.choice("xyz"), dice.choice(("k", "m")))
    return (word, day, dice.choice("qrs" if word == "end" else "hi"))


def sort_of(deed):
    """What at most one of some deeds that go together may have."""
    once = {"paper": deed[2:3], "leave": deed[2:3], "happens": deed[1:]}
    return ({"end": "rule", "lift": "hold"}.get(deed[0], deed[0]),) + once.get(deed[0], deed[1:3])


def random_deeds(seed):
    """At most 40 deeds that go together, always the same ones for one seed."""
    dice = random.Random(seed)
    deeds = {}
    for turn in range(dice.choice((3, 10, 25, 40, 40))):
        deed = random_deed(dice)
        deeds.setdefault(sort_of(deed), deed)
    return tuple(deeds.values())


# A paper that lacks its coming, and things of all other kinds: none is a paper of any deeds here.
NO_PAPERS = (
    None, 0, 1, True, False, "", "nobody", "A", "a\n", [], {}, (), ["a"], {"a": "a"}, ("a",), [["a"], {}], ([],),
)
