"""Rests modulo a number: where a step leads them, and the rings in which they come again."""

from math import gcd

from stepswithin.bounds import integer_at
from stepswithin.errors import BadParameter, NoRow, Unlike
from stepswithin.ringways import all_rings, ring_places
from stepswithin.steps import GREATEST, is_integer, need_step

LEAST_MODULO = 2
MOST_MODULO = 2000


def need_modulo(modulo):
    """Refuse what is no integer from 2 to 2,000."""
    if not is_integer(modulo) or modulo < LEAST_MODULO or modulo > MOST_MODULO:
        raise BadParameter(modulo)


def need_rest(rest, modulo):
    """Refuse what is no integer from 0 to less than a modulo."""
    if not is_integer(rest) or rest < 0 or rest >= modulo:
        raise BadParameter(rest)


def inverse_of(number, modulo):
    """Return the rest whose product with a number has the rest 1; both have no common divisor."""
    low, high = modulo, number % modulo
    before, found = 0, 1
    while high > 1:
        many, rest = divmod(low, high)
        low, high = high, rest
        before, found = found, before - many * found
    return found % modulo


def rests_in(step, modulo):
    """Return the list of the rests of the numbers of a step, refuse the first one that has none."""
    for _, bottom in step:
        if gcd(bottom, modulo) != 1:
            raise Unlike(bottom)
    return [top * inverse_of(bottom, modulo) % modulo for top, bottom in step]


def nexts_in(step, modulo):
    """Return the list of the rests to which a step leads the rests from 0 on."""
    rests = rests_in(step, modulo)
    return [integer_at(rests, rest) % modulo for rest in range(modulo)]


def nexts_of_both(one, other, modulo):
    """Return the lists of the rests to which two steps lead the rests, refuse what are no steps, no modulo."""
    need_step(one)
    need_step(other)
    need_modulo(modulo)
    return nexts_in(one, modulo), nexts_in(other, modulo)


def path_in(step, modulo, rest):
    """Return (PATH, BACK): the unlike rests from a rest on, and the place in PATH of the one that comes again."""
    rests = rests_in(step, modulo)
    places = {}
    at = rest
    while at not in places:
        places[at] = len(places)
        at = integer_at(rests, at) % modulo
    return list(places), places[at]


def step_rests(step, modulo):
    """Return the tuple of the rests of the numbers of a step, from C0 on."""
    need_step(step)
    need_modulo(modulo)
    return tuple(rests_in(step, modulo))


def rest_at(step, modulo, rest):
    """Return the rest to which a step leads a rest."""
    need_step(step)
    need_modulo(modulo)
    need_rest(rest, modulo)
    return integer_at(rests_in(step, modulo), rest) % modulo


def same_rests(one, other, modulo):
    """Return whether two steps lead each rest alike."""
    left, right = nexts_of_both(one, other, modulo)
    return left == right


def parting_rest(one, other, modulo):
    """Return the least rest that two steps lead to unlike rests."""
    left, right = nexts_of_both(one, other, modulo)
    for rest, led in enumerate(left):
        if led != right[rest]:
            return rest
    raise NoRow()


def is_onto(step, modulo):
    """Return whether a step leads some rest to each rest."""
    need_step(step)
    need_modulo(modulo)
    return len(set(nexts_in(step, modulo))) == modulo


def rest_ring(step, modulo, rest):
    """Return (TAIL, RING): how many rests from a rest on do not come again, and how many then do."""
    need_step(step)
    need_modulo(modulo)
    need_rest(rest, modulo)
    path, back = path_in(step, modulo, rest)
    return back, len(path) - back


def rest_after(step, modulo, rest, times):
    """Return the rest behind a number of times the step."""
    need_step(step)
    need_modulo(modulo)
    need_rest(rest, modulo)
    if not is_integer(times) or times < 0 or times > GREATEST:
        raise BadParameter(times)
    path, back = path_in(step, modulo, rest)
    if times < back:
        return path[times]
    return path[back + (times - back) % (len(path) - back)]


def ring_rests(step, modulo):
    """Return the ascending tuple of the rests in rings."""
    need_step(step)
    need_modulo(modulo)
    return tuple(ring_places(nexts_in(step, modulo)))


def rest_rings(step, modulo):
    """Return the tuple of the rings, each the tuple of its rests in turn, the least one first, ascending."""
    need_step(step)
    need_modulo(modulo)
    return tuple([tuple(ring) for ring in all_rings(nexts_in(step, modulo))])
