"""Token stores: small stores in which it shows that a history is wrong."""

from yesifs.checks import is_number
from yesifs.errors import BadConditions, BadStore, BadWord, IsRight, NotRight
from yesifs.judge import first_faults, is_enough, led_from, with_helpers
from yesifs.moments import check_active, checked_moment, happen, leads_at, may_vote
from yesifs.sites import check_outcome, outcomes_at
from yesifs.words import ring_in, serial_order, settled_word, supports_at


def identity(many):
    """The move of so many places that leaves each token where it is."""
    return tuple(range(many))


def inverse(move):
    """The move that takes a move back."""
    origin = {place: k for k, place in enumerate(move)}
    return tuple([origin[k] for k in range(len(move))])


def carried(places, move):
    """Where tokens are that were at these places before the move."""
    return tuple([move[place] for place in places])


def is_move(many, thing):
    """Whether thing is a permutation of so many places."""
    if not isinstance(thing, tuple) or not all([is_number(part) for part in thing]):
        return False
    return sorted(thing) == list(range(many))


def are_moves(moment, many, thing):
    """Whether thing has a permutation for each event, and the identity for each that is no step."""
    if not isinstance(thing, tuple) or len(thing) != moment.many:
        return False
    if not all([is_move(many, part) for part in thing]):
        return False
    return all([move == identity(many) for p, move in enumerate(thing) if p not in moment.steps])


def do_commute(one, other):
    """Whether two moves come to the same in both orders."""
    return carried(one, other) == carried(other, one)


def is_fitting(moment, moves):
    """Whether the moves of each two steps that do not conflict commute."""
    return all([do_commute(moves[i], moves[j]) for j in moment.steps for i in moment.steps
                if i < j and i not in moment.rivals[j]])


def is_store_at(moment, thing):
    """Whether thing is a token store that fits."""
    if not isinstance(thing, tuple) or len(thing) != 2 or not is_number(thing[0]) or not 1 <= thing[0] <= 30:
        return False
    return are_moves(moment, thing[0], thing[1]) and is_fitting(moment, thing[1])


def is_store(table, history, thing):
    """Whether thing is a token store for the history that fits."""
    return is_store_at(checked_moment(table, history), thing)


def is_letter(moment, thing):
    """Whether thing is a letter of the history."""
    if not isinstance(thing, tuple) or len(thing) != 2 or not is_number(thing[0]) or not is_number(thing[1]):
        return False
    return thing[0] in moment.steps and thing[1] in (1, -1)


def places_after(store, word):
    """The place of each token after the word."""
    many, moves = store
    places = identity(many)
    for i, sign in word:
        places = carried(places, moves[i] if sign == 1 else inverse(moves[i]))
    return places


def result(table, history, store, word):
    """The tuple that has for each place the token there after the word."""
    moment = checked_moment(table, history)
    if not is_store_at(moment, store):
        raise BadStore(store)
    if not isinstance(word, tuple) or not all([is_letter(moment, part) for part in word]):
        raise BadWord(word)
    return inverse(places_after(store, word))


def serial_places(moment, store, outcome):
    """The list of the places of the tokens after the serial words of the outcome in all allowed orders."""
    led = led_from(leads_at(moment), outcome)
    moves = {t: places_after(store, [(i, 1) for i in moment.steps_of[t]]) for t in outcome}
    # Orders of the same transactions that come to the same are continued once only.
    found = {((), identity(store[0])): True}
    for _ in outcome:
        longer = {}
        for done, places in found:
            for t in outcome:
                if t not in done and all([u in done for u in led[t]]):
                    longer[tuple(sorted(done + (t,))), carried(places, moves[t])] = True
        found = longer
    return [places for _, places in found]


def does_show(table, history, outcome, thing):
    """Whether thing is a token store that shows that the history is wrong for the outcome."""
    moment = checked_moment(table, history)
    check_outcome(moment, outcome)
    if not is_store_at(moment, thing):
        return False
    return places_after(thing, settled_word(moment, outcome)) not in serial_places(moment, thing, outcome)


def crossing(moment, outcome):
    """Two conflicting steps, one of them not kept and with one letter of the other between its own; None if none."""
    # If a letter of a settled word and its inverse cannot be removed, then two such steps are the reason, and then
    # they alone, as a commutator or a conjugate, make the word another one than each serial word.
    at = {letter: p for p, letter in enumerate(settled_word(moment, outcome))}
    for i, (t, _) in moment.steps.items():
        if t not in outcome:
            for j in moment.rivals[i]:
                inner = [sign for sign in (1, -1) if at[i, 1] < at.get((j, sign), -1) < at[i, -1]]
                if len(inner) == 1:
                    return (i, j)
    return None


def meeting(moment, t, u):
    """A step of t and a later conflicting one of u, where t supports u."""
    pairs = [(i, j) for j in moment.steps_of[u] for i in moment.steps_of[t] if i < j and i in moment.rivals[j]]
    return pairs[0]


def telling_pairs(moment, helpers, leads, outcome):
    """Pairs of conflicting steps, one of which is exchanged in each allowed serial word; [] for a right outcome.

    If a step is not kept, its pair is told apart in another way, whatever the order.
    """
    pair = crossing(moment, outcome)
    if pair is not None:
        return [pair]
    led = led_from(leads, outcome)
    against = [meeting(moment, t, u) for u in outcome for t in helpers[u] if t in led and u in led[t]]
    if against:
        return against[:1]
    earlier = with_helpers(led, helpers)
    if serial_order(earlier) is not None:
        return []
    ring = ring_in(earlier)
    # An allowed order that keeps all of these pairs would go round the ring.
    return [meeting(moment, t, u) for t, u in zip(ring, ring[1:] + ring[:1]) if t not in led[u]]


def store_for(moment, pairs):
    """A token store in which each of the pairs of steps has three tokens of its own."""
    many = 3 * len(pairs)
    moves = [list(range(many)) for _ in range(moment.many)]
    for k, (i, j) in enumerate(pairs):
        for p, at in ((i, 3 * k), (j, 3 * k + 1)):
            moves[p][at], moves[p][at + 1] = at + 1, at
    return (many, tuple([tuple(move) for move in moves]))


def first_shown(moment, most):
    """The first outcome that is wrong because of at most so many pairs, and a store that shows it; None if none."""
    helpers, leads = supports_at(moment), leads_at(moment)
    for outcome in outcomes_at(moment):
        pairs = telling_pairs(moment, helpers, leads, outcome)
        if 1 <= len(pairs) <= most:
            return (outcome, store_for(moment, pairs))
    return None


def store_against(table, history):
    """An outcome, and a token store that shows that the history is wrong for it."""
    moment = checked_moment(table, history)
    # A ring has at most as many pairs as transactions, so the tokens suffice.
    shown = first_shown(moment, 10)
    if shown is None:
        raise IsRight()
    return shown


def weakened(table, history, u, conditions):
    """An outcome, and a store with three tokens that shows that a vote for u on these conditions is wrong for it."""
    moment = checked_moment(table, history)
    p, faults = first_faults(table, history)
    if p is not None:
        raise NotRight(("wrong", p, faults[0]))
    check_active(moment, u)
    if not may_vote(moment, u, conditions) or is_enough(moment, u, conditions):
        raise BadConditions(conditions)
    happen(moment, ("yes", u, conditions))
    return first_shown(moment, 1)
