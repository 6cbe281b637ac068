"""The runs of a row's pattern, and the widths that they and the necks between rows must have."""

from orelines.cells import goes_as_ore

ANY_WIDTH = 1


# Each run, from x = 0 on: 1 for ore or 0 for waste, its first and its last x.
def runs_of(pattern, nx):
    found = []
    first = 0
    for x in range(nx):
        ore = goes_as_ore(pattern, x)
        if x == nx - 1 or goes_as_ore(pattern, x + 1) != ore:
            found.append((1 if ore else 0, first, x))
            first = x + 1
    return found


def runs_are_wide(pattern, nx, ore, waste):
    for kind, first, last in runs_of(pattern, nx):
        cells = last - first + 1
        if cells < nx and cells < (ore if kind == 1 else waste):
            return False
    return True


# One answer for each pattern: the necks ask for thousands of pairs, but only 2^nx patterns differ.
def wide_patterns(nx, ore, waste):
    return [runs_are_wide(pattern, nx, ore, waste) for pattern in range(1 << nx)]


# Made anew for each call that asks, as the bench's widths may have changed since.
class Rules:
    def __init__(self, bench):
        self.greatest = bench.greatest_pattern()
        self.wide_rows = wide_patterns(bench.nx, bench.widths[0], bench.widths[1])
        self.wide_necks = wide_patterns(bench.nx, bench.widths[2], ANY_WIDTH)

    def runs_hold(self, pattern):
        return self.wide_rows[pattern]

    # What a run of one row and a run of the other have in common is one run of what both rows have in
    # common: two such stretches never touch, as one of the rows has the other kind between them.
    def necks_hold(self, pattern, other):
        both_ore = pattern & other
        both_waste = self.greatest ^ (pattern | other)
        return self.wide_necks[both_ore] and self.wide_necks[both_waste]
