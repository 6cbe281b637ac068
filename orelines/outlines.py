"""Outlines: the sides of the ore, closed into rounds, and the corners at which these turn.

A side is a tuple of y and x of where it begins and of its way, so that sides sort into their order.
"""

from orelines.cells import ore_cells

WAYS = 4
TO_THE_RIGHT = 1
STRAIGHT_ON = 0
TO_THE_LEFT = 3

# By ways, all as x and y: how far a side goes, ..
STEPS = ((1, 0), (0, 1), (-1, 0), (0, -1))
# .. where it begins, seen from its cell's first corner, ..
BEGINNINGS = ((0, 0), (1, 0), (1, 1), (0, 1))
# .. and where the cell beyond it lies, seen from its cell.
BEYOND = ((0, -1), (1, 0), (0, 1), (-1, 0))


def sides_of(bench, lines):
    ore = ore_cells(bench, lines)
    sides = []
    for x, y in ore:
        for way in range(WAYS):
            if (x + BEYOND[way][0], y + BEYOND[way][1]) not in ore:
                sides.append((y + BEGINNINGS[way][1], x + BEGINNINGS[way][0], way))
    return sorted(sides)


def side_behind(side, sides):
    way = side[2]
    y = side[0] + STEPS[way][1]
    x = side[1] + STEPS[way][0]
    for turn in (TO_THE_RIGHT, STRAIGHT_ON):
        behind = (y, x, (way + turn) % WAYS)
        if behind in sides:
            return behind
    return (y, x, (way + TO_THE_LEFT) % WAYS)


def round_from(first, sides):
    members = [first]
    side = side_behind(first, sides)
    while side != first:
        members.append(side)
        side = side_behind(side, sides)
    return members


def rounds_of(bench, lines):
    sides = dict([(side, True) for side in sides_of(bench, lines)])
    placed = {}
    rounds = []
    for side in sides:
        if side not in placed:
            members = round_from(side, sides)
            rounds.append(members)
            for member in members:
                placed[member] = True
    return rounds


# The corners, each as x and y, at which a side goes another way than the one before it.
def turning_corners(members):
    corners = []
    before = members[-1]
    for side in members:
        if side[2] != before[2]:
            corners.append((side[1], side[0]))
        before = side
    return corners


def outlines_of(bench, lines):
    return [turning_corners(members) for members in rounds_of(bench, lines)]
