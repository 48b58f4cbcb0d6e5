"""Straight partners: steps that are one but for straight steps ahead of them, behind them, or both."""

from stepswithin.errors import BadParameter
from stepswithin.kinds import centre_of, centred
from stepswithin.polynomials import LETTER, difference_of, product_of, quotient_of, sum_of
from stepswithin.roots import all_roots, power_of
from stepswithin.steps import need_step

ONE = (1, 1)
NOUGHT = (0, 1)


def need_all_crooked(steps):
    """Refuse the first of some values that is no step, then the first straight one."""
    for step in steps:
        need_step(step)
    for step in steps:
        if len(step) == 2:
            raise BadParameter(step)


def have_same_gaps(one, other):
    """Return whether two steps of one degree have noughts at the same powers, but perhaps at the power 0."""
    return not any([(number == NOUGHT) != (other[place] == NOUGHT) for place, number in enumerate(one) if place > 0])


def fits_behind(one, other, factor):
    """Return whether `one`, its letter taken `factor` times, is `other` but for a straight step behind it."""
    degree = len(one) - 1
    share = quotient_of(other[-1], one[-1])
    for place in range(1, degree):
        if product_of(one[place], share) != product_of(other[place], power_of(factor, degree - place)):
            return False
    return True


def factors_between(one, other):
    """Return the ascending list of factors of the letter with which one step is the other but for a straight one.

    Both have the middle 0 and one degree. Of powers only the factor 1 is told: each one would do.
    """
    if not have_same_gaps(one, other):
        return []
    places = [place for place in range(1, len(one) - 1) if one[place] != NOUGHT]
    if places == []:
        return [ONE]
    place = places[-1]
    share = quotient_of(product_of(one[place], other[-1]), product_of(other[place], one[-1]))
    return [factor for factor in all_roots(share, len(one) - 1 - place) if fits_behind(one, other, factor)]


def pairs_between(one, other):
    """Return the ascending tuple of the pairs (V, U) of straight steps that lead one step to the other one."""
    if len(one) != len(other):
        return ()
    left, right = centred(one), centred(other)
    found = []
    for factor in factors_between(left, right):
        ahead = (difference_of(product_of(factor, centre_of(other)), centre_of(one)), factor)
        head = quotient_of(right[-1], product_of(left[-1], power_of(factor, len(one) - 1)))
        found.append((ahead, (difference_of(right[0], product_of(head, left[0])), head)))
    return tuple(found)


def levelled(step):
    """Return the partner of a step whose middle is 0: the letter and the middle added is its letter."""
    told = centred(step)
    return (sum_of(told[0], centre_of(step)), *told[1:])


def leads_level(one, other, factor):
    """Return whether A X, A being the factor, leads what comes of a number by one step to what comes by the other."""
    scale = ONE
    for place, number in enumerate(one):
        if product_of(number, factor) != product_of(other[place], scale):
            return False
        scale = product_of(scale, factor)
    return True


def level_factors(one, other):
    """Return the ascending list of the numbers A such that A X leads one step to the other; both have the middle 0."""
    if len(one) != len(other) or not have_same_gaps(one, other):
        return []
    return [factor for factor in all_roots(quotient_of(one[-1], other[-1]), len(one) - 2)
            if leads_level(one, other, factor)]


def partners_of(one, other):
    """Return the ascending tuple of the straight steps by which one step is told as the other one."""
    ahead, behind = centre_of(one), centre_of(other)
    return tuple([(difference_of(product_of(factor, ahead), behind), factor)
                  for factor in level_factors(levelled(one), levelled(other))])


def turns(step):
    """Return the ascending tuple of the straight steps that a step does not feel ahead of it."""
    need_all_crooked((step,))
    told = centred(step)
    if len(step) & 1 == 0 or any([number != NOUGHT for number in told[1::2]]):
        return (LETTER,)
    return ((product_of((-2, 1), centre_of(step)), (-1, 1)), LETTER)


def straight_pairs(one, other):
    """Return the ascending tuple of the pairs (V, U) of straight steps such that the row (V, one, U) makes `other`."""
    need_all_crooked((one, other))
    return pairs_between(one, other)


def are_straight(one, other):
    """Return whether two steps are one but for straight steps ahead and behind."""
    need_all_crooked((one, other))
    return len(one) == len(other) and factors_between(centred(one), centred(other)) != []


def partners(one, other):
    """Return the ascending tuple of the straight V such that the rows (V, other) and (one, V) have one whole."""
    need_all_crooked((one, other))
    return partners_of(one, other)


def own(step):
    """Return the ascending tuple of the straight steps that lead a step to itself."""
    need_all_crooked((step,))
    return partners_of(step, step)
