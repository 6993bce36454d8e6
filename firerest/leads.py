"""Leads and gaps of lines, and their sums along walks."""

from firerest.errors import NoLine, NotAWalk
from firerest.webs import check_places, walk_fault


def state_lead(here, there):
    """Return the lead from a place to a neighbour, by their states."""
    if here == 0 and there == 1:
        return 1
    if here == 1 and there == 0:
        return -1
    return 0


def state_gap(here, there):
    """Return the gap from a place to a neighbour, by their states."""
    return (there - here + 1) % 3 - 1


def check_line(web, a, b):
    """Raise `NoPlace` or `NoLine` unless the numbers are neighbours."""
    check_places(web, (a, b))
    if (a, b) not in web:
        raise NoLine(a, b)


def check_walk(web, walk):
    """Raise `NotAWalk` unless `walk` is a walk of the web."""
    fault = walk_fault(web, walk)
    if fault is not None:
        raise NotAWalk(fault)


def lead(scene, a, b):
    """Return the lead from a place to its neighbour."""
    check_line(scene.web, a, b)
    return state_lead(scene.picture[a], scene.picture[b])


def gap(scene, a, b):
    """Return the gap from a place to its neighbour."""
    check_line(scene.web, a, b)
    return state_gap(scene.picture[a], scene.picture[b])


def lead_sum(scene, walk):
    """Return the sum of the leads of the steps of a walk."""
    check_walk(scene.web, walk)
    states = [scene.picture[place] for place in walk]
    return sum([state_lead(here, there) for here, there in zip(states, states[1:])])


def gap_sum(scene, walk):
    """Return the sum of the gaps of the steps of a walk."""
    check_walk(scene.web, walk)
    states = [scene.picture[place] for place in walk]
    return sum([state_gap(here, there) for here, there in zip(states, states[1:])])
