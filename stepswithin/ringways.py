"""Places that are led to places: which of them come again, and the rings in which they do.

What leads is a list: at each place stands the place that comes next, or None where the way leads out of the list.
"""


def led_far(nexts):
    """Return the list of where each place is led by at least as many steps as there are places, None for out.

    So many steps lead each place that is not led out to one in a ring.
    """
    far = list(nexts)
    steps = 1
    while steps < len(nexts):
        far = [None if place is None else far[place] for place in far]
        steps *= 2
    return far


def coming_places(nexts):
    """Return the ascending list of the places that are never led out."""
    return [place for place, end in enumerate(led_far(nexts)) if end is not None]


def ring_places(nexts):
    """Return the ascending list of the places in rings."""
    return sorted(set([end for end in led_far(nexts) if end is not None]))


def all_rings(nexts):
    """Return the list of the rings, each the list of its places in turn, the least one first, ascending."""
    seen = set()
    found = []
    for place in ring_places(nexts):
        if place not in seen:
            ring = []
            at = place
            while at not in seen:
                seen.add(at)
                ring.append(at)
                at = nexts[at]
            found.append(ring)
    return found
