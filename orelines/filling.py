"""Outlines read back: numbers into rounds of corners, and rounds into lines."""

FEWEST_CORNERS = 4


# Each round as its corners, each as x and y; None if the numbers don't tell rounds.
def read_rounds(numbers):
    rounds = []
    at = 0
    while at < len(numbers):
        first = at + 1
        behind = first + 2 * numbers[at]
        if numbers[at] < FEWEST_CORNERS or behind > len(numbers):
            return None
        rounds.append([(numbers[k], numbers[k + 1]) for k in range(first, behind, 2)])
        at = behind
    return rounds


# Each corner with the next one; behind the last comes the first.
def stretches_of(corners):
    return list(zip(corners, corners[1:] + corners[:1]))


def is_upright(stretch):
    return stretch[0][0] == stretch[1][0]


def is_level(stretch):
    return stretch[0][1] == stretch[1][1]


# Each stretch goes along one place alone, and along the other one than the stretch before it.
def turns_at_each_corner(corners):
    stretches = stretches_of(corners)
    before = stretches[-1]
    for stretch in stretches:
        if is_upright(stretch) == is_level(stretch) or is_upright(stretch) == is_upright(before):
            return False
        before = stretch
    return True


def is_drawn_on(bench, corners):
    if len(corners) % 2 == 1:
        return False
    for x, y in corners:
        if x > bench.nx or y > bench.ny:
            return False
    return turns_at_each_corner(corners)


def is_at_left(stretch, x, y):
    from_y = stretch[0][1]
    to_y = stretch[1][1]
    return stretch[0][0] <= x and min(from_y, to_y) <= y < max(from_y, to_y)


def filled_row(bench, uprights, y):
    pattern = 0
    for x in range(bench.nx):
        at_left = [stretch for stretch in uprights if is_at_left(stretch, x, y)]
        if len(at_left) % 2 == 1:
            pattern += 1 << x
    return pattern


def filled_lines(bench, rounds):
    uprights = []
    for corners in rounds:
        uprights.extend([stretch for stretch in stretches_of(corners) if is_upright(stretch)])
    return [filled_row(bench, uprights, y) for y in range(bench.ny)]
