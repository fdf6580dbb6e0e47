"""What several tests share: deeds of every word, and things that are of no use."""

import random

KEEP = ("keep", "mail", ("coming",), 5, "days")
GONE = ("gone", "mail", ("first", "read"), 2, "months")

RULES = (
    KEEP,
    ("keep", "mail", ("first", "read"), 0, "months"),
    ("keep", "mail", ("last", "read"), 999, "years"),
    ("gone", "mail", ("coming",), 1, "years"),
    GONE,
    ("gone", "abcdefgh", ("last", "abcdefgh"), 998, "days"),
    ("while", "mail"),
    ("follow", "mail"),
    ("leave", "mail"),
)

DEEDS = (
    ("paper", 0, "a", "mail", ()),
    ("paper", 3, "b", "mail", ("a",)),
    ("paper", 99999, "abcdefgh", "k", ("a", "aa", "b", "z")),
    ("happens", 7, "a", "read"),
    ("rule", 4, "r", KEEP),
    ("end", 5, "r"),
    ("hold", 6, "h", ("paper", "a"), True),
    ("hold", 6, "i", ("kind", "mail"), False),
    ("lift", 8, "h"),
    ("leave", 9, "l", "mail"),
)

# Nothing here is a name, a day, a word, a truth or a part of a deed.
NO_PARTS = (
    None,
    -1,
    1000000,
    "",
    "A",
    "ninesigns",
    "a b",
    "a1",
    "a\n",
    " a",
    [],
    {},
    ["a"],
    {"a": "b"},
    ((),),
    ([],),
    ({},),
    ([["a"]], {"a": [{}]}),
    (None, ("a", [])),
)


def gone(name, many, kind="k", day=0, since=("coming",), unit="days"):
    """A deed of a gone rule."""
    return ("rule", day, name, ("gone", kind, since, many, unit))


def keep(name, many, kind="k", day=0, since=("coming",), unit="days"):
    """A deed of a keep rule."""
    return ("rule", day, name, ("keep", kind, since, many, unit))


def shuffled(deeds, seed):
    """The same deeds in another order, always the same one for one seed."""
    others = list(deeds)
    random.Random(seed).shuffle(others)
    return tuple(others)


def in_all_orders(deeds):
    """The same deeds in several orders."""
    return [deeds, deeds[::-1]] + [shuffled(deeds, seed) for seed in range(8)]


def replaced(thing, part):
    """Each thing that comes of a tuple where one place in it, at any depth, is the part."""
    for place, old in enumerate(thing):
        yield thing[:place] + (part,) + thing[place + 1:]
        if isinstance(old, tuple):
            for other in replaced(old, part):
                yield thing[:place] + (other,) + thing[place + 1:]


def reshaped(thing):
    """Each thing that comes of a tuple where it, or one within it, has a part more or fewer, or is a list."""
    yield list(thing)
    yield thing + ("a",)
    yield thing + (0,)
    if thing:
        yield thing[:-1]
        yield thing[1:]
    for place, old in enumerate(thing):
        if isinstance(old, tuple):
            for other in reshaped(old):
                yield thing[:place] + (other,) + thing[place + 1:]


def random_rule(dice, spans):
    """The parts of some rule, of few kinds and happenings, so that many meet."""
    word = dice.choice(("keep", "gone", "keep", "gone", "while", "follow", "leave"))
    kind = dice.choice(("k", "m"))
    if word not in ("keep", "gone"):
        return (word, kind)
    since = dice.choice((("coming",), ("first", "read"), ("last", "read"), ("last", "sent")))
    return (word, kind, since) + dice.choice(spans)


def random_deed(dice, last, spans):
    """Some deed of a day up to the last, of few names, so that many meet."""
    day = dice.randint(0, last)
    word = dice.choice(("paper",) * 3 + ("happens", "rule") * 2 + ("end", "hold", "lift", "leave"))
    paper = dice.choice("abcdef")
    if word == "paper":
        makers = tuple(sorted(dice.sample("abcdefg", dice.randint(0, 4))))
        return (word, day, paper, dice.choice(("k", "m")), makers)
    if word == "happens":
        return (word, day, paper, dice.choice(("read", "sent")))
    if word == "rule":
        return (word, day, dice.choice("qrs"), random_rule(dice, spans))
    if word == "hold":
        target = dice.choice((("paper", paper), ("kind", dice.choice(("k", "m")))))
        return (word, day, dice.choice("hi"), target, dice.choice((True, False)))
    if word == "leave":
        return (word, day, dice.choice("xyz"), dice.choice(("k", "m")))
    return (word, day, dice.choice("qrs" if word == "end" else "hi"))


def sort_of(deed):
    """What at most one of some deeds that go together may have."""
    once = {"paper": deed[2:3], "leave": deed[2:3], "happens": deed[1:]}
    return ({"end": "rule", "lift": "hold"}.get(deed[0], deed[0]),) + once.get(deed[0], deed[1:3])


SHORT = tuple((many, unit) for many in (0, 1, 3, 9) for unit in ("days", "days", "days", "months", "years"))
LONG = tuple((many, unit) for many in (0, 1, 40, 270, 999) for unit in ("days", "months", "years"))


def random_deeds(seed, last=12, spans=SHORT):
    """At most 40 deeds that go together, always the same ones for one seed."""
    dice = random.Random(seed)
    deeds = {}
    for turn in range(dice.choice((3, 10, 25, 40, 40))):
        deed = random_deed(dice, last, spans)
        deeds.setdefault(sort_of(deed), deed)
    return tuple(deeds.values())


def busy_rule(dice, spans):
    """The parts of some rule, mostly of one kind and from the coming, so that papers go and rules clash."""
    kind = dice.choice("kkm")
    word = dice.choice(("gone", "gone", "gone", "keep", "while", "follow", "follow", "leave"))
    if word not in ("keep", "gone"):
        return (word, kind)
    since = dice.choice((("coming",), ("coming",), ("first", "read"), ("last", "read")))
    return (word, kind, since) + dice.choice(spans)


def busy_deed(dice, last, spans):
    """Some deed, such that many papers go, follow, lack leaves and are held for a while."""
    word = dice.choice(("paper",) * 9 + ("rule",) * 8 + ("happens",) * 5 + ("leave",) * 4 + ("hold", "lift", "lift", "end"))
    day = dice.randint(0, last // 2 if word in ("paper", "rule", "hold") else last)
    paper = dice.choice("abcdefghij")
    if word == "paper":
        makers = tuple(sorted(dice.sample("abcdefghijx", dice.choice((0, 1, 1, 2, 4)))))
        return (word, day, paper, dice.choice("kkm"), makers)
    if word == "happens":
        return (word, day, paper, "read")
    if word == "rule":
        return (word, day, dice.choice("opqrstuvw"), busy_rule(dice, spans))
    if word == "hold":
        target = dice.choice((("paper", paper), ("kind", dice.choice("km"))))
        return (word, day, dice.choice("hi"), target, dice.choice((True, False)))
    if word == "leave":
        return (word, day, dice.choice("xyzabc"), dice.choice("kkm"))
    return (word, day, dice.choice("opqrstuvw" if word == "end" else "hi"))


def busy_deeds(seed, last, spans=SHORT):
    """Up to 40 deeds that go together, always the same ones for one seed."""
    dice = random.Random(seed)
    deeds = {}
    for turn in range(400):
        deed = busy_deed(dice, last, spans)
        if len(deeds) < 20 + seed % 21:
            deeds.setdefault(sort_of(deed), deed)
    return tuple(deeds.values())


# A paper that lacks its coming, and things of all other kinds: none is a paper of any deeds here.
NO_PAPERS = (
    None, 0, 1, True, False, "", "nobody", "A", "a\n", [], {}, (), ["a"], {"a": "a"}, ("a",), [["a"], {}], ([],),
)
