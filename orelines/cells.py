"""A bench: its cells, what they are worth, and what is told of them beforehand."""

NOTHING_TOLD = 0
AS_ORE = 1
AS_WASTE = 2


class Bench:
    def __init__(self, nx, ny, rates, widths, kilograms, metal):
        self.nx = nx
        self.ny = ny
        self.price = rates[0]
        self.cost = rates[1]
        self.dumping = rates[2]
        self.widths = list(widths)
        self.kilograms = list(kilograms)
        self.metal = list(metal)
        self.told = [NOTHING_TOLD] * (nx * ny)

    def holds(self, x, y):
        return 0 <= x < self.nx and 0 <= y < self.ny

    # Cells are kept row by row, so that x and y together are one index.
    def place_of(self, x, y):
        return y * self.nx + x

    def ore_worth(self, at):
        return self.metal[at] * self.price - self.kilograms[at] * self.cost

    def waste_worth(self, at):
        return -self.kilograms[at] * self.dumping

    def is_ore_by_itself(self, at):
        return self.ore_worth(at) > self.waste_worth(at)

    def greatest_pattern(self):
        return (1 << self.nx) - 1

    # The kilograms and the metal of these cells together.
    def amounts_at(self, places):
        return [sum([self.kilograms[at] for at in places]), sum([self.metal[at] for at in places])]

    def row_worth(self, y, pattern):
        worth = 0
        for x in range(self.nx):
            at = self.place_of(x, y)
            if goes_as_ore(pattern, x):
                worth += self.ore_worth(at)
            else:
                worth += self.waste_worth(at)
        return worth

    def row_is_as_told(self, y, pattern):
        for x in range(self.nx):
            way = AS_ORE if goes_as_ore(pattern, x) else AS_WASTE
            if self.told[self.place_of(x, y)] not in (NOTHING_TOLD, way):
                return False
        return True


def goes_as_ore(pattern, x):
    return (pattern >> x) & 1 == 1


# The cells that go as ore, each as x and y, row by row; a dict, as each of them is asked for by its neighbours.
def ore_cells(bench, lines):
    found = {}
    for y, pattern in enumerate(lines):
        for x in range(bench.nx):
            if goes_as_ore(pattern, x):
                found[(x, y)] = True
    return found


# Another bench like this one, but for what is told of one cell: so this one need not be changed for a while.
def with_told(bench, at, told):
    rates = [bench.price, bench.cost, bench.dumping]
    other = Bench(bench.nx, bench.ny, rates, bench.widths, bench.kilograms, bench.metal)
    other.told = list(bench.told)
    other.told[at] = told
    return other
