"""A paper by a tie, found, or that there is none."""

from nearerwork.errors import TooMany
from nearerwork.papers import Fitting
from nearerwork.ties import tied
from nearerwork.walking import rooms_of

MOST_PAIRS = 2000


def paper_of(far, near, tie):
    far_rooms = [room for room, run in rooms_of(far)]
    near_rooms = [room for room, run in rooms_of(near)]
    if len(far_rooms) * len(near_rooms) > MOST_PAIRS:
        raise TooMany("too many pairs of rooms")
    fitting = Fitting(far, near, tie.table)
    pairs = [pair for pair in pairs_of(far_rooms, near_rooms) if tied(far, near, tie, pair[0], pair[1])]
    most = most_of(fitting, [pair for pair in pairs if fitting.stops_fit(pair)])
    first = (far.first(), near.first())
    if first not in most:
        return None
    return sorted(come_to_from(fitting, most, first))


def pairs_of(far_rooms, near_rooms):
    pairs = []
    for far_room in far_rooms:
        pairs.extend([(far_room, room) for room in near_rooms])
    return pairs


# A pair may lean on one that falls away, so it is looked again until none does.
def most_of(fitting, pairs):
    left = pairs
    kept = fitting.answered_among(left)
    while len(kept) < len(left):
        left = kept
        kept = fitting.answered_among(left)
    return kept


def come_to_from(fitting, most, first):
    fresh = dict([(pair, True) for pair in most])
    fresh[first] = False
    met = [first]
    done = {}
    looked = 0
    while looked < len(met):
        for pair in pairs_behind(fitting, met[looked], done):
            if fresh.get(pair, False):
                fresh[pair] = False
                met.append(pair)
        looked = looked + 1
    return met


# By one move to one far room there are the same pairs from whichever far room, so they are told but once.
def pairs_behind(fitting, pair, done):
    pairs = []
    for called, rooms in fitting.near_moves(pair[1]):
        for far_room in fitting.ways.far_rooms_behind(pair[0], called):
            if (far_room, pair[1], called) not in done:
                done[(far_room, pair[1], called)] = True
                pairs.extend([(far_room, room) for room in rooms])
    return pairs
