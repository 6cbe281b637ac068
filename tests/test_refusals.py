"""Wrong inputs: which refusal is told, in which order they are looked at, and that none changes anything."""

import unittest

from tests.helper import (
    ask, ask_last, bench, best, cell, change, check, count, fill, fix, forced, free, losses, outlines, pieces, price,
    runs, table, told, widths)

FAR = 1000000000000000000
LAID = bench(3, 2, 7, 2, 1, (1, 2, 3), [1, 2, 3, 4, 5, 6], [6, 5, 4, 3, 2, 1])


def lists_bench(chosen, kilograms, metal, nx=3, ny=2, rates=(1, 1, 1)):
    return bench(nx, ny, *rates, widths=chosen, kilograms=kilograms, metal=metal)


def out_of_range(build, ranges):
    """Calls with one argument beyond its range and all others at the least of theirs."""
    for which, (least, greatest) in enumerate(ranges):
        for number in (least - 1, greatest + 1, -FAR, FAR):
            plain = [bounds[0] for bounds in ranges]
            plain[which] = number
            yield build(*plain)


RATE, AMOUNT, X, Y, WIDTH = (0, 1000000), (0, 1000000000), (0, 6), (0, 7), (1, 7)


def wrong_benches():
    def build(nx, ny, *rates):
        return bench(nx, ny, *rates, kilograms=[0], metal=[0])

    yield from out_of_range(build, [(1, 7), (1, 8), RATE, RATE, RATE])
    six = [0] * 6
    for chosen in ((), (1,), (1, 1), (1, 1, 1, 1), (0, 1, 1), (1, 8, 1), (1, 1, 0), (8, 1, 1), (1, 1, -FAR), (1,) * 500):
        yield lists_bench(chosen, six, six)
    for amount in (-1, 1000000001, FAR, -FAR):
        yield lists_bench((1, 1, 1), [0] * 5 + [amount], six)
        yield lists_bench((1, 1, 1), six, [amount] + [0] * 5)
    for length in (57, 500):
        yield lists_bench((1, 1, 1), [0] * length, six)
        yield lists_bench((1, 1, 1), six, [0] * length)


def wrong_calls():
    """Calls, none of them bench, that are out of range whatever the bench is."""
    yield from out_of_range(cell, [X, Y])
    yield from out_of_range(change, [X, Y, AMOUNT, AMOUNT])
    yield from out_of_range(fix, [X, Y, (0, 2)])
    yield from out_of_range(widths, [WIDTH, WIDTH, WIDTH])
    yield from out_of_range(price, [RATE])
    yield from out_of_range(table, [Y])
    yield from out_of_range(runs, [(0, 127)])
    yield from out_of_range(forced, [X, Y, (1, 2)])
    for lines in ([0] * 9, [0] * 500, [-1, 0], [0, 128], [FAR, 0], [0, -FAR], [0, 0, 0, 128], [-1]):
        for build in (check, losses, pieces, outlines):
            yield build(lines)
    box = [4, 0, 0, 1, 0, 1, 1, 0, 1]
    for number in (-1, 501, FAR, -FAR):
        yield fill([number])
        yield fill([number] + box[1:])
        yield fill(box[:8] + [number])
        yield fill(box + [number])
        yield fill([0] * 499 + [number])


class OutOfRangeTest(unittest.TestCase):
    def test_bench(self):
        for call in wrong_benches():
            self.assertEqual(ask(call), [[-1]], call)
            self.assertEqual(ask_last(LAID, call), [-1], call)

    def test_all_others_with_a_bench(self):
        for call in wrong_calls():
            self.assertEqual(ask_last(LAID, call), [-1], call)

    def test_ahead_of_no_bench(self):
        for call in wrong_calls():
            self.assertEqual(ask(call), [[-1]], call)

    def test_ahead_of_a_wrong_number_of_cells(self):
        for kilograms, metal in (([0] * 5, [0] * 57), ([0] * 57, [0] * 5), ([0] * 5, [-1] * 6), ([-1] * 5, [0] * 5)):
            self.assertEqual(ask(lists_bench((1, 1, 1), kilograms, metal)), [[-1]])
        self.assertEqual(ask(lists_bench((1, 1), [], [])), [[-1]])
        self.assertEqual(ask(lists_bench((1, 1, 1), [], [], rates=(1, 1, 1000001))), [[-1]])

    def test_ahead_of_no_such_cell(self):
        for call in (change(6, 7, -1, 0), change(6, 7, 0, -1), fix(6, 7, 3), fix(6, 7, -1), cell(6, 8), cell(7, 7),
                     forced(6, 7, 0), forced(6, 7, 3), forced(3, 0, 0), forced(7, 7, 1), forced(6, 8, 1)):
            self.assertEqual(ask_last(LAID, call), [-1])

    def test_ahead_of_lines_that_are_not_as_many_as_rows(self):
        for lines in ([-1], [128], [0, 0, -1], [0] * 9, [127, 128], [8, -1]):
            for build in (check, losses, pieces, outlines):
                self.assertEqual(ask_last(LAID, build(lines)), [-1])

    def test_ahead_of_numbers_that_are_no_rounds(self):
        # 3 corners would be -5, and 5 corners of no bench -6.
        for numbers in ([3, 0, 501], [3, -1], [5] + [9] * 9 + [501], [5, -1] + [9] * 9):
            self.assertEqual(ask_last(LAID, fill(numbers)), [-1])

    def test_one_within_the_range_is_not_refused_so(self):
        calls = [runs(0), runs(127), forced(6, 7, 1), forced(6, 7, 2), losses([127] * 8), losses([]), fill([500] * 500),
                 fill([0]), fill([]), pieces([127] * 8), outlines([0] * 8)]
        found = ask(LAID, *calls)[1:]
        self.assertEqual([answer[0] for answer in found], [0, -3, -2, -2, -3, -3, -5, -5, 0, -3, -3])


class NoBenchTest(unittest.TestCase):
    def test_each_call_but_bench(self):
        calls = [cell(0, 0), cell(6, 7), change(0, 0, 1, 1), change(6, 7, 0, 0), fix(0, 0, 1), widths(1, 1, 1),
                 price(1), best(), table(0), table(7), check([]), check([0]), check([127] * 8), count(), free(),
                 losses([]), losses([0]), losses([127] * 8), pieces([]), pieces([0]), outlines([]), outlines([127]),
                 fill([]), fill([0]), fill([3] * 7), fill([4, 9, 9, 9, 9, 9, 9, 9, 9]), fill([500] * 500), runs(0),
                 runs(127), forced(0, 0, 1), forced(6, 7, 2), told()]
        for call in calls:
            self.assertEqual(ask(call), [[-8]], call)
        self.assertEqual(ask(*calls), [[-8]] * len(calls))

    def test_a_refused_bench_is_none(self):
        found = ask(bench(2, 2, kilograms=[0]), best(), bench(8, 1), best(), cell(0, 0), told(), count())
        self.assertEqual(found, [[-7], [-8], [-1], [-8], [-8], [-8], [-8]])


class NoSuchPlaceTest(unittest.TestCase):
    def test_no_such_cell(self):
        for x, y in ((3, 0), (0, 2), (6, 7), (3, 1), (2, 2)):
            for call in (cell(x, y), change(x, y, 1, 1), fix(x, y, 1), forced(x, y, 1), forced(x, y, 2)):
                self.assertEqual(ask_last(LAID, call), [-2], call)

    def test_the_last_cell_is_there(self):
        for nx, ny in ((1, 1), (7, 1), (1, 8), (7, 8)):
            calls = [cell(nx - 1, ny - 1), change(nx - 1, ny - 1, 0, 0), fix(nx - 1, ny - 1, 0), table(ny - 1),
                     forced(nx - 1, ny - 1, 1), forced(nx - 1, ny - 1, 2)]
            for answer in ask(bench(nx, ny), *calls):
                self.assertEqual(answer[0], 0)

    def test_of_forced_ahead_of_no_lines(self):
        laid = [LAID, widths(2, 2, 2), fix(0, 0, 2), fix(1, 0, 1), fix(2, 0, 2)]
        self.assertEqual(ask(*laid, forced(0, 1, 1), forced(3, 0, 1), forced(0, 2, 1))[5:], [[-4], [-2], [-2]])

    def test_no_such_row(self):
        self.assertEqual(ask(LAID, table(2), table(7), table(1))[1:3], [[-2], [-2]])
        self.assertEqual(ask_last(bench(1, 7), table(7)), [-2])
        self.assertEqual(ask_last(bench(1, 8), table(7)), [0, 0, 0, 1, 0])


class WrongLinesTest(unittest.TestCase):
    def test_not_as_many_as_rows(self):
        for lines in ([], [0], [0, 0, 0], [127] * 8, [127]):
            for build in (check, losses, pieces, outlines):
                self.assertEqual(ask_last(LAID, build(lines)), [-3], lines)

    def test_a_pattern_above_the_greatest(self):
        for build in (losses, pieces, outlines):
            for lines in ([8, 0], [0, 8], [127, 127], [7, 8], [64, 7], [8], [0, 0, 8]):
                self.assertEqual(ask_last(LAID, build(lines)), [-3], lines)
            self.assertEqual(ask_last(LAID, build([7, 7]))[0], 0)

    def test_each_width_of_a_bench(self):
        for nx in range(1, 7):
            for build in (losses, pieces, outlines):
                found = ask(bench(nx, 1), build([2 ** nx - 1]), build([2 ** nx]))
                self.assertEqual([answer[0] for answer in found], [0, 0, -3])
        for ny in range(1, 9):
            for build in (losses, pieces, outlines):
                found = ask(bench(1, ny), build([1] * ny), build([1] * (ny - 1)), build([1] * (ny + 1)))
                self.assertEqual([answer[0] for answer in found], [0, 0, -3, -3 if ny < 8 else -1])

    def test_of_runs(self):
        self.assertEqual(ask(LAID, runs(7), runs(8), runs(127), runs(128))[1:], [[0, 1, 1, 0, 2], [-3], [-3], [-1]])

    def test_a_number_too_great_for_the_row_is_no_refusal(self):
        self.assertEqual(ask_last(LAID, check([8, 127])), [0, 0, 1, 0])


class WrongNumberOfCellsTest(unittest.TestCase):
    def test_kilograms_or_metal(self):
        for kilograms, metal in ((5, 6), (7, 6), (6, 5), (6, 7), (0, 6), (6, 0), (5, 5), (7, 7), (56, 56), (0, 0)):
            self.assertEqual(ask(lists_bench((1, 1, 1), [0] * kilograms, [0] * metal)), [[-7]])
        self.assertEqual(ask(lists_bench((1, 1, 1), [0] * 6, [0] * 6)), [[0]])

    def test_the_greatest_bench(self):
        self.assertEqual(ask(bench(7, 8, kilograms=[0] * 55)), [[-7]])
        self.assertEqual(ask(bench(7, 8)), [[0]])


class NothingChangesTest(unittest.TestCase):
    """Promise 5."""

    FIXED = [fix(1, 0, 1), fix(2, 1, 2)]
    NO_LINES = [fix(0, 0, 2), fix(1, 0, 1), fix(2, 0, 2), fix(0, 1, 2), fix(1, 1, 2), fix(2, 1, 1)]

    def refused(self):
        """Calls that the bench of three times two cells refuses, with their refusals."""
        found = [(call, -1) for call in list(wrong_benches()) + list(wrong_calls())]
        found += [(call, -2) for call in (cell(3, 0), change(0, 2, 9, 9), change(3, 0, 9, 9), change(3, 1, 9, 9),
                                          fix(3, 0, 1), fix(0, 2, 2), table(2), forced(3, 0, 1), forced(0, 2, 2))]
        found += [(call, -3) for call in (check([]), check([0]), check([0, 0, 0]), runs(8), runs(127))]
        found += [(build(lines), -3) for build in (losses, pieces, outlines)
                  for lines in ([], [0], [0, 0, 0], [8, 0], [0, 127])]
        found += [(fill(numbers), -5) for numbers in ([0], [3, 0, 0, 1, 0, 1, 1], [4, 0, 0], [9] * 500)]
        found += [(fill(numbers), -6) for numbers in ([4, 0, 0, 4, 0, 4, 1, 0, 1], [4, 0, 0, 1, 1, 2, 2, 0, 2],
                                                      [5, 0, 0, 1, 0, 1, 1, 2, 1, 0, 1], [4] + [0] * 8)]
        found += [(call, -7) for call in (lists_bench((7, 7, 7), [9] * 5, [9] * 6, rates=(9, 9, 9)),
                                          lists_bench((7, 7, 7), [9] * 6, [9] * 7, rates=(9, 9, 9)))]
        return found

    def probe(self):
        cells = [cell(x, y) for y in range(2) for x in range(3)]
        asked = [told(), table(0), table(1), best(), count(), free(), forced(0, 0, 1), losses([2, 0]), pieces([5, 0]),
                 outlines([5, 0]), runs(5), check([2, 0]), check([7, 3])]
        return cells + asked + [price(5), widths(3, 3, 3), cell(3, 0), told()]

    def test_behind_each_refusal_all_is_as_if_it_had_not_been_called(self):
        untouched = ask(LAID, *self.FIXED, *self.probe())
        for call, refusal in self.refused():
            found = ask(LAID, *self.FIXED, call, *self.probe())
            self.assertEqual(found[3], [refusal], call)
            self.assertEqual(found[:3] + found[4:], untouched, call)

    def test_no_lines(self):
        laid = [LAID, widths(2, 2, 2)] + self.NO_LINES
        untouched = ask(*laid, *self.probe())
        for call in (best(), forced(1, 0, 1), forced(2, 0, 2), forced(0, 0, 1)):
            found = ask(*laid, call, *self.probe())
            self.assertEqual(found[len(laid)], [-4])
            self.assertEqual(found[:len(laid)] + found[len(laid) + 1:], untouched)

    def test_before_there_is_a_bench(self):
        untouched = ask(LAID, *self.probe())
        early = [change(0, 0, 9, 9), fix(0, 0, 1), widths(7, 7, 7), price(9), bench(3, 2, 9, metal=[1])]
        found = ask(*early, LAID, *self.probe())
        self.assertEqual(found[:5], [[-8]] * 4 + [[-7]])
        self.assertEqual(found[5:], untouched)

    def test_many_refusals_one_behind_another(self):
        refused = [(call, refusal) for call, refusal in self.refused() if len(call) < 60]
        untouched = ask(LAID, *self.FIXED, *self.probe())
        found = ask(LAID, *self.FIXED, *[call for call, _ in refused], *self.probe())
        self.assertEqual(found[3:3 + len(refused)], [[refusal] for _, refusal in refused])
        self.assertEqual(found[:3] + found[3 + len(refused):], untouched)


if __name__ == "__main__":
    unittest.main()
