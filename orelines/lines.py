"""Lines on a bench: the best ones, the tables that show that none are better, how many there are, and their faults."""

from orelines.patterns import Rules

NO_FAULT = 0
NUMBER_TOO_GREAT = 1
RUN_TOO_NARROW = 2
NECK_TOO_NARROW = 3
NOT_AS_TOLD = 4


def lines_worth(bench, lines):
    return sum([bench.row_worth(y, pattern) for y, pattern in enumerate(lines)])


# For each pattern that a row may have by its runs, those that may stand in a row beside it, rising.
def neighbours(rules):
    patterns = [pattern for pattern in range(rules.greatest + 1) if rules.runs_hold(pattern)]
    found = {}
    for pattern in patterns:
        found[pattern] = [other for other in patterns if rules.necks_hold(pattern, other)]
    return found


# None if no pattern behind goes with it; behind the last row there is nothing that could fail to.
def most_behind(bench, y, behind, beside):
    if y == bench.ny - 1:
        return 0
    return max([behind[other] for other in beside if other in behind], default=None)


# By rising patterns the most that row y and those behind it can be worth; behind is the next row's table.
def row_table(bench, y, behind, beside):
    table = {}
    for pattern in beside:
        if not bench.row_is_as_told(y, pattern):
            continue
        most = most_behind(bench, y, behind, beside[pattern])
        if most is not None:
            table[pattern] = bench.row_worth(y, pattern) + most
    return table


# The tables of row first and of all rows behind it, in the rows' order.
def tables_from(bench, first, beside):
    tables = []
    table = {}
    for y in range(bench.ny - 1, first - 1, -1):
        table = row_table(bench, y, table, beside)
        tables.insert(0, table)
    return tables


def table_of(bench, y):
    return tables_from(bench, y, neighbours(Rules(bench)))[0]


# The most that lines are worth, or None if no lines may be drawn.
def most_worth(bench):
    return max(list(table_of(bench, 0).values()), default=None)


# For each pattern of row y in how many ways the rows before it may be drawn; before holds the row before's.
def row_ways(bench, y, before, beside):
    ways = {}
    for pattern in beside:
        if not bench.row_is_as_told(y, pattern):
            continue
        if y == 0:
            ways[pattern] = 1
        else:
            ways[pattern] = sum([before[other] for other in beside[pattern] if other in before])
    return ways


def count_lines(bench):
    beside = neighbours(Rules(bench))
    ways = {}
    for y in range(bench.ny):
        ways = row_ways(bench, y, ways, beside)
    return sum(ways.values())


# Of several patterns with the most max takes the first, and patterns rise: so the least is taken.
def best_pattern(table, patterns):
    return max([pattern for pattern in patterns if pattern in table], key=lambda pattern: table[pattern])


# The best lines, or None if no lines may be drawn.
def best_lines(bench):
    beside = neighbours(Rules(bench))
    tables = tables_from(bench, 0, beside)
    if len(tables[0]) == 0:
        return None
    lines = []
    patterns = list(beside)
    for table in tables:
        pattern = best_pattern(table, patterns)
        lines.append(pattern)
        patterns = beside[pattern]
    return lines


def row_fault(bench, rules, lines, y):
    pattern = lines[y]
    if pattern > rules.greatest:
        return NUMBER_TOO_GREAT
    if not rules.runs_hold(pattern):
        return RUN_TOO_NARROW
    if y > 0 and not rules.necks_hold(lines[y - 1], pattern):
        return NECK_TOO_NARROW
    if not bench.row_is_as_told(y, pattern):
        return NOT_AS_TOLD
    return NO_FAULT


# The kind of the first fault and its row, or None if the lines may be drawn.
def first_fault(bench, lines):
    rules = Rules(bench)
    for y in range(len(lines)):
        kind = row_fault(bench, rules, lines, y)
        if kind != NO_FAULT:
            return (kind, y)
    return None
