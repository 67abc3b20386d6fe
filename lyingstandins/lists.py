"""Lists about books: the checks that matter, and what a book lets by and refuses."""

from lyingstandins.books import Book
from lyingstandins.fields import act, can_pass, deeds, events, is_true, standings
from lyingstandins.judging import Judge
from lyingstandins.refusals import refusals
from lyingstandins.relations import bits


def least_lists(checks, promises, *, depth=1):
    """The lists of the checks without a lie that have one without any one of their checks."""
    found = []
    for chosen in _index_lists(len(checks)):
        # More checks let no more by: a list around one without a lie has none either,
        # and can spare a check.
        if not any([_contains(chosen, least) for least in found]):
            book = Book([checks[at] for at in chosen])
            if Judge(book, depth=depth).lie(promises) is None:
                found.append(chosen)
    return [[checks[at] for at in chosen] for chosen in found]


def _index_lists(many):
    """All ascending lists of indexes below `many`, by length and then by the indexes."""
    lists = [[]]
    longest = [[]]
    for _ in range(many):
        longest = [[*row, at] for row in longest for at in range(row[-1] + 1 if row else 0, many)]
        lists.extend(longest)
    return lists


def _contains(chosen, least):
    return all([at in chosen for at in least])


def needed(book, promises, *, depth=1):
    """The `(check, lie)` of each check without which the book has a lie, in the book's order."""
    rows = []
    for check in book:
        lie = Judge(book - Book([check]), depth=depth).lie(promises)
        if lie is not None:
            rows.append((check, lie))
    return rows


def implied(book):
    """The checks, in the book's order, that refuse only what the book's other checks refuse."""
    return [check for check in book if book - Book([check]) <= book]


def parting(first, second):
    """The first `(event, standing)`, in order, that only the first book lets by, or None."""
    places = standings()
    for event, mine, theirs in zip(events(), refusals(first), refusals(second)):
        parted = bits(theirs & ~mine)
        if parted:
            return (event, places[parted[0]])
    return None


def made_up(book, *, depth=1):
    """The `(event, standing)`, in order, where the event is untrue but leads to the same standing."""
    judge = Judge(book, depth=depth)
    rows = []
    for event in events():
        for before, after in judge.pairs(event):
            if before == after and not is_true(event, after):
                rows.append((event, after))
    return rows


def refused_truths(book, *, ahead=False, meanwhile=False):
    """The `(before, event, shown)`, in order, of the true events that the book refuses."""
    rows = []
    for before in standings():
        for deed in deeds():
            answer, after = act(before, deed)
            event = (deed, answer)
            for shown in _shown(before, after, ahead, meanwhile):
                if book.refuser(event, shown) is not None:
                    rows.append((before, event, shown))
    return rows


def _shown(before, after, ahead, meanwhile):
    """The standings, in order, that a check may see behind a deed that leads from before to after."""
    if not meanwhile:
        return [before if ahead else after]
    if ahead:
        return [place for place in standings() if can_pass(place, before)]
    return [place for place in standings() if can_pass(after, place)]
