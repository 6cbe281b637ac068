"""What cells would be worth each by itself, and what lines lose and dilute against that."""

from orelines.cells import ore_cells


# What is told beforehand is not looked at here.
def free_worth(bench):
    return sum([max(bench.ore_worth(at), bench.waste_worth(at)) for at in range(bench.nx * bench.ny)])


# Kilograms and metal that go as ore, then those that are lost, then those that dilute.
def amounts_lost(bench, lines):
    ore = [bench.place_of(x, y) for x, y in ore_cells(bench, lines)]
    waste = [at for at in range(bench.nx * bench.ny) if at not in ore]
    lost = [at for at in waste if bench.is_ore_by_itself(at)]
    diluting = [at for at in ore if not bench.is_ore_by_itself(at)]
    return bench.amounts_at(ore) + bench.amounts_at(lost) + bench.amounts_at(diluting)
