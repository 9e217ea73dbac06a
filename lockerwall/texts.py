"""Texts of books and of deeds."""

from lockerwall.books import MOMENTS, MOST_DAYS, Book, is_rule
from lockerwall.deeds import MOST_PARCEL, SINGLE_WORDS, check_are_deeds
from lockerwall.errors import NoText

FIGURES = "0123456789"
LAYS = {"lay": True, "bare": False}
TAKES = {"take": True, "leave": False}
SHUTS = {"shut": True, "ajar": False}


def book_text(book):
    """Return the text of a book."""
    lines = ["days " + str(book.days())]
    for moment, rule in zip(MOMENTS, book.rules()):
        lines.append(" ".join([moment + ":", *rule]))
    return "\n".join(lines)


def read_book(text):
    """Return the book of a text."""
    lines = lines_of(text)
    days = read_days(lines[0])
    if days is None:
        raise NoText(0)
    rules = []
    for at, moment in enumerate(MOMENTS, start=1):
        rule = read_rule(lines[at], moment) if at < len(lines) else None
        if rule is None:
            raise NoText(at)
        rules.append(rule)
    if len(lines) > 1 + len(MOMENTS):
        raise NoText(1 + len(MOMENTS))
    return Book(days, *rules)


def deeds_text(deeds):
    """Return the text of a list of deeds."""
    check_are_deeds(deeds)
    return "\n".join([deed_line(deed) for deed in deeds])


def read_deeds(text):
    """Return the list of deeds of a text."""
    lines = lines_of(text)
    if text == "":
        return []
    deeds = []
    for at, line in enumerate(lines):
        deed = read_deed(line)
        if deed is None:
            raise NoText(at)
        deeds.append(deed)
    return deeds


def lines_of(text):
    """Return the lines of a text, at least one; only newlines end a line."""
    if not isinstance(text, str):
        raise NoText(0)
    return text.split("\n")


def read_number(figures, most):
    """Return the number from 1 on that is written, None if it is not written plainly or above the most."""
    if figures == "" or figures.startswith("0") or not all([figure in FIGURES for figure in figures]):
        return None
    if len(figures) > len(str(most)) or int(figures) > most:
        return None
    return int(figures)


def read_days(line):
    """Return the number of days that the first line of a book tells, None if it tells none."""
    word, _, figures = line.partition(" ")
    return read_number(figures, MOST_DAYS) if word == "days" else None


def read_rule(line, moment):
    """Return the rule that the line for a moment tells, None if it tells none."""
    words = line.split(" ")
    rule = tuple(words[1:])
    return rule if words[0] == moment + ":" and is_rule(rule) else None


def read_deed(line):
    """Return the deed that a line writes, None if it writes none."""
    words = line.split(" ")
    word, more = words[0], words[1:]
    if word == "bring" and len(more) == 2 and more[0] in LAYS and more[1] in SHUTS:
        return ("bring", LAYS[more[0]], SHUTS[more[1]])
    if word == "code" and len(more) == 3 and more[1] in TAKES and more[2] in SHUTS:
        parcel = read_number(more[0], MOST_PARCEL)
        return None if parcel is None else ("code", parcel, TAKES[more[1]], SHUTS[more[2]])
    return (word,) if not more and word in SINGLE_WORDS else None


def deed_line(deed):
    """Return the line for a deed."""
    word = deed[0]
    if word == "bring":
        return " ".join([word, "lay" if deed[1] else "bare", "shut" if deed[2] else "ajar"])
    if word == "code":
        return " ".join([word, str(deed[1]), "take" if deed[2] else "leave", "shut" if deed[3] else "ajar"])
    return word
