"""Deeds as texts: words parted by single blanks, one deed a row."""

from goneday.days import is_figures, read_day, show_day
from goneday.deeds import is_deed, quarrel
from goneday.errors import NoText

MANY_FIGURES = 3


def rule_words(parts):
    """Write a rule's word and parts, word by word."""
    if len(parts) == 2:
        return list(parts)
    return [parts[0], parts[1], ":".join(parts[2]), str(parts[3]), parts[4]]


def part_words(word, parts):
    """Write what stands behind the name in a deed of this word, word by word."""
    if word == "paper":
        return [parts[0]] + list(parts[1])
    if word == "rule":
        return rule_words(parts[0])
    if word == "hold":
        return list(parts[0]) + (["deep"] if parts[1] else [])
    return list(parts)


def show_deed(deed):
    """Write a deed."""
    return " ".join([deed[0], show_day(deed[1]), deed[2]] + part_words(deed[0], deed[3:]))


def show_deeds(deeds):
    """Write deeds, one a row."""
    return "\n".join([show_deed(deed) for deed in deeds])


def number_in(word, figures):
    """Tell the number that a word of at most so many figures tells, None where it tells none."""
    if not 1 <= len(word) <= figures or not is_figures(word, len(word)):
        return None
    return None if len(word) > 1 and word[0] == "0" else int(word)


def day_in(word):
    """Tell the day that a word tells, None where it tells none."""
    try:
        return read_day(word)
    except NoText:
        return None


def rule_in(words):
    """Tell a rule's word and parts as these words tell them, whether they are so or not."""
    if len(words) != 5:
        return tuple(words)
    return (words[0], words[1], tuple(words[2].split(":")), number_in(words[3], MANY_FIGURES), words[4])


def parts_in(word, words):
    """Tell what stands behind the name in a deed of this word, as these words tell it, whether it is so or not."""
    if word == "paper":
        return tuple(words[:1]) + (tuple(words[1:]),)
    if word == "rule":
        return (rule_in(words),)
    if word == "hold":
        return (tuple(words[:2]), words[2:] == ["deep"])
    return tuple(words)


def deed_in(row):
    """Tell the deed that a text tells, None where it tells none."""
    words = row.split(" ")
    if len(words) < 3:
        return None
    deed = (words[0], day_in(words[1]), words[2]) + parts_in(words[0], words[3:])
    # What is left over, or reads the same though written otherwise, isn't shown again so.
    return deed if is_deed(deed) and show_deed(deed) == row else None


def read_deed(text):
    """Tell the deed of a text, a thing of any kind."""
    deed = deed_in(text) if isinstance(text, str) else None
    if deed is None:
        raise NoText(0)
    return deed


def read_deeds(text):
    """Tell the deeds of a text, a thing of any kind, in the order of its rows."""
    if not isinstance(text, str):
        raise NoText(0)
    deeds = []
    rows = text.split("\n") if text else []
    for number, row in enumerate(rows):
        deed = deed_in(row)
        if deed is None or any([quarrel(other, deed) for other in deeds]):
            raise NoText(number)
        deeds.append(deed)
    return tuple(deeds)
