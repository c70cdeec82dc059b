"""Words: what is done and taken back at a site, and when it comes to the same as a serial order."""

from yesifs.facts import closed
from yesifs.moments import left_steps, supporters


def settled_word(moment, kept):
    """The word after which all steps of transactions that are not kept are taken back."""
    tail = [(i, -1) for i in left_steps(moment) if moment.steps[i][0] not in kept]
    return tuple(moment.word + tail)


def place_of_inverse(moment, letters, letter):
    """The place of the letter that a letter cancels if it comes after these letters, None if there is none."""
    i, sign = letter
    for at in reversed(range(len(letters))):
        j, other = letters[at]
        if j == i:
            return at if other == -sign else None
        if j in moment.rivals[i]:
            return None
    return None


def reduced(moment, word):
    """The list of the letters of a word that are left when, after exchanges, no two neighbours cancel any more."""
    letters = []
    for letter in word:
        at = place_of_inverse(moment, letters, letter)
        if at is None:
            letters.append(letter)
        else:
            letters.pop(at)
    return letters


def is_cleared(moment, kept):
    """Whether only the steps of kept transactions are left of the settled word."""
    # Letters that are left keep their order, and of conflicting letters it can never be exchanged.
    # So the settled word is a serial word exactly if it is cleared and the order fits the supports.
    return reduced(moment, settled_word(moment, kept)) == [(i, 1) for i in moment.steps if moment.steps[i][0] in kept]


def supports_at(moment):
    """A dict of the supporters of each transaction that has steps here."""
    return {u: supporters(moment, u) for u in moment.steps_of}


def serial_order(earlier):
    """A list of all keys of the dict in which each comes after all those that the dict names for it, None if none.

    Each of the named ones is a key.
    """
    order = list(closed(earlier, []))
    return order if len(order) == len(earlier) else None


def ring_in(earlier):
    """A tuple of different keys each of which the dict names for the next one, where there is no serial order."""
    order = closed(earlier, [])
    way = [[u for u in earlier if u not in order][0]]
    while way[-1] not in way[:-1]:
        way.append([t for t in earlier[way[-1]] if t not in order][0])
    # The way goes from each transaction to one before it.
    return tuple(way[:way.index(way[-1]):-1])
