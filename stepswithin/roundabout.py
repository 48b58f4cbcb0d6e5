"""Turning round: a step's last part done first, and the steps that are come to by doing so again and again."""

from stepswithin.errors import BadParameter, NoRow, TooGreat
from stepswithin.parting import behind_or_break, candidate_of
from stepswithin.parts import part_degrees
from stepswithin.polynomials import put_in
from stepswithin.roots import are_far, power_marks
from stepswithin.steps import is_integer
from stepswithin.straight import level_factors, levelled, need_all_crooked

MOST_MET = 40


def inner_degrees(step):
    """Return the ascending list of the degrees of first parts of a step, but for 1 and its own."""
    return part_degrees(step)[1:-1]


def turned_by(step, degree):
    """Return a step turned round for its plain first part of a degree."""
    first = candidate_of(step, degree)
    return put_in(behind_or_break(step, first)[0], first)


def marked(step):
    """Return (LEVEL, MARKS): a partner of a step with the middle 0, and the marks by which its head may differ."""
    return levelled(step), power_marks(step[-1], len(step) - 2)


def are_partners(one, other):
    """Return whether two steps, told by their levels and marks, are partners."""
    return len(one[0]) == len(other[0]) and not are_far(one[1], other[1]) and level_factors(one[0], other[0]) != []


def walked(one, is_goal):
    """Return (MET, WAY): the steps met from one step on, and the degrees by which the goal is met.

    If it is not met, WAY is None. The steps are met by the shortest ways, of these by the least ones: ways are made
    longer in their order, by the lesser degrees first.
    """
    met, ways, levels = [one], [()], [marked(one)]
    if is_goal(levels[0]):
        return met, ()
    at = 0
    while at < len(met):
        degrees = inner_degrees(met[at])
        for degree in degrees:
            step = turned_by(met[at], degree)
            level = marked(step)
            if not any([are_partners(level, told) for told in levels]):
                if is_goal(level):
                    return met, (*ways[at], degree)
                if len(met) == MOST_MET:
                    raise TooGreat(MOST_MET)
                met.append(step)
                ways.append((*ways[at], degree))
                levels.append(level)
        at += 1
    return met, None


def turned_round(step, degree):
    """Return a step turned round for its plain first part of a degree."""
    need_all_crooked((step,))
    if not is_integer(degree) or degree not in inner_degrees(step):
        raise BadParameter(degree)
    return turned_by(step, degree)


def turned_rounds(step):
    """Return the tuple of a step turned round for each of its plain first parts but X and its own plain form."""
    need_all_crooked((step,))
    return tuple([turned_by(step, degree) for degree in inner_degrees(step)])


def round_class(step):
    """Return the tuple of the steps that are met from a step on, in the order of meeting."""
    need_all_crooked((step,))
    return tuple(walked(step, lambda level: False)[0])


def way_round(one, other):
    """Return the tuple of degrees by which a partner of the other step is met first, or None."""
    need_all_crooked((one, other))
    goal = marked(other)
    return walked(one, lambda level: are_partners(level, goal))[1]


def round_way(one, other):
    """Return the least of the shortest tuples of degrees that turn one step round to a partner of the other one."""
    found = way_round(one, other)
    if found is None:
        raise NoRow()
    return found


def are_round(one, other):
    """Return whether one step, turned round again and again, becomes a partner of the other one."""
    return way_round(one, other) is not None
