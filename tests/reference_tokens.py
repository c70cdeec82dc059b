"""What DOC.md says of token stores, once more, word by word and without any regard for speed."""

from itertools import permutations

from tests import reference_sites as sites


def is_permutation(thing, many):
    return (type(thing) is tuple and all(type(part) is int for part in thing)
            and sorted(thing) == list(range(many)))


def is_token_store(events, thing):
    if type(thing) is not tuple or len(thing) != 2:
        return False
    many, moves = thing
    if type(many) is not int or many not in range(1, 31) or type(moves) is not tuple or len(moves) != len(events):
        return False
    if not all(is_permutation(move, many) for move in moves):
        return False
    return all(move == tuple(range(many)) for move, event in zip(moves, events) if event[0] != "do")


def moved(tokens, move):
    """The tokens, one for each place, after each went from its place k to the place move[k]."""
    after = [None] * len(tokens)
    for k, token in enumerate(tokens):
        after[move[k]] = token
    return tuple(after)


def unmoved(tokens, move):
    return tuple([tokens[move[k]] for k in range(len(tokens))])


def fits(table, events, store):
    many, moves = store
    start = tuple(range(many))
    return all(moved(moved(start, moves[i]), moves[j]) == moved(moved(start, moves[j]), moves[i])
               for i in sites.steps(events) for j in sites.steps(events)
               if i != j and not sites.do_steps_conflict(table, events, i, j))


def is_store(table, events, thing):
    return is_token_store(events, thing) and fits(table, events, thing)


def result(store, word):
    tokens = tuple(range(store[0]))
    for i, sign in word:
        tokens = moved(tokens, store[1][i]) if sign == 1 else unmoved(tokens, store[1][i])
    return tokens


def does_show(table, events, outcome, thing):
    if not is_store(table, events, thing):
        return False
    found = result(thing, sites.settled(events, outcome))
    return all(found != result(thing, sites.serial(events, order))
               for order in permutations(outcome) if sites.is_allowed(table, events, order))


def is_word(events, thing):
    return type(thing) is tuple and all(
        type(part) is tuple and len(part) == 2 and all(type(item) is int for item in part)
        and part[0] in sites.steps(events) and part[1] in (1, -1) for part in thing)
