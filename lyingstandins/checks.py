"""Checks: the words of events and of what is shown behind, and the written form."""

from lyingstandins.errors import BadCheck
from lyingstandins.promises import denies, field_in, value_in

WORDS = ("done", "not", "gone", "there", "changes", "firm", "goes", "stays", "other", "shut", "open")
FIELD_WORDS = ("gone", "there", "changes", "firm", "goes", "stays")
SHUT_WORDS = ("shut", "open")
CLAIM_WORDS = {
    "look": ("gone", "there", "changes", "firm", "goes", "stays"),
    "has": ("gone", "there"),
    "get": ("gone", "there"),
    "set": ("done", "not"),
    "define": ("done", "not", "changes", "firm", "goes", "stays"),
    "take": ("done", "not"),
    "names": ("gone", "there"),
    "shut": ("done", "not"),
    "isshut": ("shut", "open"),
}


def behind_words(kind):
    """The words that the side behind of a check of this kind may have, in order."""
    if kind in ("shut", "isshut"):
        return SHUT_WORDS
    if kind in ("look", "get", "set", "define"):
        return (*FIELD_WORDS, "other", *SHUT_WORDS)
    return (*FIELD_WORDS, *SHUT_WORDS)


def event_words(event, name):
    """The words that the event has about the name, in order."""
    deed, answer = event
    kind = deed[0]
    words = []
    if kind in ("set", "define", "take", "shut"):
        words.append("done" if answer else "not")
    if kind in ("look", "has", "get", "names"):
        words.append("gone" if denies(event, name) else "there")
    field = field_in(event, name)
    if field is not None:
        words.extend(_flag_words(field))
    if kind == "isshut":
        words.append(_shut_word(answer))
    return tuple(words)


def shown_words(event, shown, name):
    """The words of the standing that is shown behind the event, in order."""
    field, shut = shown
    words = []
    if field is None:
        words.append("gone")
    else:
        words.append("there")
        words.extend(_flag_words(field))
        value = value_in(event, name)
        if value is not None and value != field[0]:
            words.append("other")
    words.append(_shut_word(shut))
    return tuple(words)


def _flag_words(field):
    return ("changes" if field[1] else "firm", "goes" if field[2] else "stays")


def _shut_word(shut):
    return "shut" if shut else "open"


def parse_check(line):
    """The check that the line is the written form of; BadCheck if it is none."""
    kind, *words = line.split(" ")
    if kind not in CLAIM_WORDS or words.count("if") != 1:
        raise BadCheck(line)
    at = words.index("if")
    claim = words[:at]
    behind = words[at + 1:]
    if not _is_side(claim, CLAIM_WORDS[kind]) or not _is_side(behind, behind_words(kind)):
        raise BadCheck(line)
    return (kind, _in_order(claim), _in_order(behind))


def _is_side(words, allowed):
    """True if the words are different ones of the allowed ones."""
    return all([word in allowed and words.count(word) == 1 for word in words])


def _in_order(words):
    return tuple([word for word in WORDS if word in words])


def format_check(check):
    """The written form of the check."""
    kind, claim, behind = check
    return " ".join([kind, *claim, "if", *behind])
