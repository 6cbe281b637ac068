"""The calls on one bench: a list of whole numbers in, a list of whole numbers out."""

from orelines.cells import Bench, with_told
from orelines.filling import filled_lines, is_drawn_on, read_rounds
from orelines.lines import best_lines, count_lines, first_fault, lines_worth, most_worth, table_of
from orelines.losses import amounts_lost, free_worth
from orelines.outlines import outlines_of
from orelines.patterns import runs_are_wide, runs_of
from orelines.pieces import pieces_of
from orelines.reading import is_in_range, read_calls

DONE = 0
OUT_OF_RANGE = -1
NOT_ON_BENCH = -2
NOT_THE_BENCH_LINES = -3
NO_LINES = -4
NOT_ROUNDS = -5
WRONG_ROUND = -6
WRONG_NUMBER_OF_CELLS = -7
NO_BENCH = -8

BENCH_CALL = 0


class Control:
    def __init__(self):
        self.bench = None


def lay_bench(control, plain, lists):
    nx = plain[0]
    ny = plain[1]
    if len(lists[1]) != nx * ny or len(lists[2]) != nx * ny:
        return [WRONG_NUMBER_OF_CELLS]
    control.bench = Bench(nx, ny, plain[2:], lists[0], lists[1], lists[2])
    return [DONE]


def tell_cell(bench, plain, lists):
    if not bench.holds(plain[0], plain[1]):
        return [NOT_ON_BENCH]
    at = bench.place_of(plain[0], plain[1])
    own = 1 if bench.is_ore_by_itself(at) else 0
    worths = [bench.ore_worth(at), bench.waste_worth(at)]
    return [DONE, bench.kilograms[at], bench.metal[at]] + worths + [bench.told[at], own]


def change_cell(bench, plain, lists):
    if not bench.holds(plain[0], plain[1]):
        return [NOT_ON_BENCH]
    at = bench.place_of(plain[0], plain[1])
    bench.kilograms[at] = plain[2]
    bench.metal[at] = plain[3]
    return [DONE]


def fix_cell(bench, plain, lists):
    if not bench.holds(plain[0], plain[1]):
        return [NOT_ON_BENCH]
    at = bench.place_of(plain[0], plain[1])
    before = bench.told[at]
    bench.told[at] = plain[2]
    return [DONE, before]


def set_widths(bench, plain, lists):
    before = bench.widths
    bench.widths = list(plain)
    return [DONE] + before


def set_price(bench, plain, lists):
    before = bench.price
    bench.price = plain[0]
    return [DONE, before]


def tell_best(bench, plain, lists):
    lines = best_lines(bench)
    if lines is None:
        return [NO_LINES]
    return [DONE, lines_worth(bench, lines)] + lines


def tell_table(bench, plain, lists):
    if not bench.holds(0, plain[0]):
        return [NOT_ON_BENCH]
    answer = [DONE]
    for pattern, most in table_of(bench, plain[0]).items():
        answer.extend([pattern, most])
    return answer


def check_lines(bench, plain, lists):
    lines = lists[0]
    if len(lines) != bench.ny:
        return [NOT_THE_BENCH_LINES]
    fault = first_fault(bench, lines)
    if fault is None:
        return [DONE, 1, lines_worth(bench, lines)]
    return [DONE, 0] + list(fault)


def tell_count(bench, plain, lists):
    return [DONE, count_lines(bench)]


def tell_free(bench, plain, lists):
    return [DONE, free_worth(bench)]


# check alone doesn't ask this: to it a number that's too great is a fault to be told.
def are_patterns(bench, lines):
    return len(lines) == bench.ny and all([pattern <= bench.greatest_pattern() for pattern in lines])


def tell_losses(bench, plain, lists):
    lines = lists[0]
    if not are_patterns(bench, lines):
        return [NOT_THE_BENCH_LINES]
    return [DONE] + amounts_lost(bench, lines) + [free_worth(bench) - lines_worth(bench, lines)]


def tell_pieces(bench, plain, lists):
    lines = lists[0]
    if not are_patterns(bench, lines):
        return [NOT_THE_BENCH_LINES]
    answer = [DONE]
    for piece in pieces_of(bench, lines):
        places = [bench.place_of(x, y) for x, y in piece]
        answer.extend(list(piece[0]) + [len(piece)] + bench.amounts_at(places))
    return answer


def tell_outlines(bench, plain, lists):
    lines = lists[0]
    if not are_patterns(bench, lines):
        return [NOT_THE_BENCH_LINES]
    answer = [DONE]
    for corners in outlines_of(bench, lines):
        answer.append(len(corners))
        for corner in corners:
            answer.extend(corner)
    return answer


def fill_rounds(bench, plain, lists):
    rounds = read_rounds(lists[0])
    if rounds is None:
        return [NOT_ROUNDS]
    if not all([is_drawn_on(bench, corners) for corners in rounds]):
        return [WRONG_ROUND]
    return [DONE] + filled_lines(bench, rounds)


def tell_runs(bench, plain, lists):
    pattern = plain[0]
    if pattern > bench.greatest_pattern():
        return [NOT_THE_BENCH_LINES]
    answer = [DONE, 1 if runs_are_wide(pattern, bench.nx, bench.widths[0], bench.widths[1]) else 0]
    for run in runs_of(pattern, bench.nx):
        answer.extend(run)
    return answer


def tell_forced(bench, plain, lists):
    if not bench.holds(plain[0], plain[1]):
        return [NOT_ON_BENCH]
    most = most_worth(with_told(bench, bench.place_of(plain[0], plain[1]), plain[2]))
    if most is None:
        return [NO_LINES]
    return [DONE, most]


def tell_bench(bench, plain, lists):
    answer = [DONE, bench.nx, bench.ny, bench.price, bench.cost, bench.dumping] + bench.widths
    for kilograms, metal in zip(bench.kilograms, bench.metal):
        answer.extend([kilograms, metal])
    return answer + bench.told


# All calls but bench, by their places: they alone need a bench to be there.
CALLS_ON_BENCH = {
    1: tell_cell,
    2: change_cell,
    3: fix_cell,
    4: set_widths,
    5: set_price,
    6: tell_best,
    7: tell_table,
    8: check_lines,
    9: tell_count,
    10: tell_free,
    11: tell_losses,
    12: tell_pieces,
    13: tell_outlines,
    14: fill_rounds,
    15: tell_runs,
    16: tell_forced,
    17: tell_bench,
}


def answer_call(control, place, plain, lists):
    if not is_in_range(place, plain, lists):
        return [OUT_OF_RANGE]
    if place == BENCH_CALL:
        return lay_bench(control, plain, lists)
    if control.bench is None:
        return [NO_BENCH]
    return CALLS_ON_BENCH[place](control.bench, plain, lists)


def answers(calls):
    control = Control()
    told = []
    for place, plain, lists in read_calls(calls):
        answer = answer_call(control, place, plain, lists)
        told.append(len(answer))
        told.extend(answer)
    return told
