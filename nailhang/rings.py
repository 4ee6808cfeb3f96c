"""Rings: cords loosened, closed to rings, and led from one to another."""

from nailhang.cords import contrary, joined, short_form


def loosened(cord):
    runs = short_form(cord)
    first = 0
    last = len(runs) - 1
    while first < last and runs[first] == (runs[last][0], -runs[last][1]):
        first = first + 1
        last = last - 1
    outer = runs[:first]
    inner = runs[first:last + 1]
    if len(inner) > 1 and inner[0][0] == inner[-1][0]:
        # The ends undo one another in part or not at all: all turns go to the end of the inner one.
        total = inner[0][1] + inner[-1][1]
        outer = outer + inner[:1]
        inner = inner[1:-1] + [(inner[0][0], total)]
    return (outer, inner)


def least_beginning(runs):
    # Two beginnings are followed side by side, alike for so many runs. Where they differ, the greater
    # one drops out, and so do all that were passed from it on: those from the other one on are less.
    first = 0
    second = 1
    alike = 0
    size = len(runs)
    while first < size and second < size and alike < size:
        here = runs[(first + alike) % size]
        there = runs[(second + alike) % size]
        if here == there:
            alike = alike + 1
            continue
        if here > there:
            first = first + alike + 1
        else:
            second = second + alike + 1
        if first == second:
            second = second + 1
        alike = 0
    return min(first, second)


def begun_at(runs, place):
    return runs[place:] + runs[:place]


def ring_of(cord):
    inner = loosened(cord)[1]
    return begun_at(inner, least_beginning(inner))


def leader(one, other):
    first = loosened(one)
    second = loosened(other)
    start = least_beginning(first[1])
    goal = least_beginning(second[1])
    if begun_at(first[1], start) != begun_at(second[1], goal):
        return None
    steps = 0
    if first[1]:
        steps = (start - goal) % len(first[1])
    # The second inner one is the first one begun so many runs later: led by the contrary of those runs.
    within = joined(contrary(first[1][:steps]), contrary(first[0]))
    return short_form(joined(second[0], within))
