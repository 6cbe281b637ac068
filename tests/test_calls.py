"""Each of the calls by itself, number by number, and several one behind another."""

import unittest

from orelines.bench import answers
from tests.helper import (
    ask, ask_last, bench, best, cell, change, check, count, fill, fix, forced, free, losses, outlines, pieces, price,
    runs, table, told, widths)

KILOGRAMS = [10, 20, 30, 40, 50, 60]
METAL = [1, 2, 3, 100, 200, 300]
SIX = bench(3, 2, 7, 2, 1, (1, 2, 3), KILOGRAMS, METAL)


class BenchTest(unittest.TestCase):
    def test_answers_nothing_but_0(self):
        self.assertEqual(answers(SIX), [1, 0])

    def test_cells_are_told_row_by_row(self):
        found = ask(SIX, *[cell(x, y) for y in range(2) for x in range(3)])[1:]
        self.assertEqual([answer[1] for answer in found], KILOGRAMS)
        self.assertEqual([answer[2] for answer in found], METAL)

    def test_a_new_bench_takes_the_place_of_the_old_in_all(self):
        found = ask(SIX, fix(0, 0, 1), bench(2, 3, 5, 1, 0, (4, 5, 6), [1] * 6, [2] * 6),
                    cell(0, 0), cell(2, 0), cell(1, 2), price(9), widths(1, 1, 1))
        self.assertEqual(found[3:], [[0, 1, 2, 9, 0, 0, 1], [-2], [0, 1, 2, 9, 0, 0, 1], [0, 5], [0, 4, 5, 6]])

    def test_least_and_greatest_of_each_range(self):
        for nx, ny in ((1, 1), (7, 1), (1, 8), (7, 8)):
            for rate in (0, 1000000):
                for amount in (0, 1000000000):
                    for width in (1, 7):
                        laid = bench(nx, ny, rate, rate, rate, [width] * 3, [amount] * nx * ny, [amount] * nx * ny)
                        found = ask(laid, cell(nx - 1, ny - 1))
                        own = 1 if rate * amount > 0 else 0
                        self.assertEqual(found, [[0], [0, amount, amount, 0, -rate * amount, 0, own]])

    def test_price_cost_and_dumping_are_not_mixed_up(self):
        self.assertEqual(ask_last(bench(1, 1, 1000, 100, 10, kilograms=[1], metal=[1]), cell(0, 0)),
                         [0, 1, 1, 900, -10, 0, 1])


class CellTest(unittest.TestCase):
    def test_numbers(self):
        self.assertEqual(answers(SIX + cell(1, 1)), [1, 0, 7, 0, 50, 200, 1300, -50, 0, 1])

    def test_worth_as_ore_below_0_and_less_than_as_waste(self):
        self.assertEqual(ask_last(SIX, cell(2, 0)), [0, 30, 3, -39, -30, 0, 0])

    def test_worth_as_ore_below_0_and_more_than_as_waste(self):
        laid = bench(1, 1, 1, 3, 3, kilograms=[4], metal=[1])
        self.assertEqual(ask_last(laid, cell(0, 0)), [0, 4, 1, -11, -12, 0, 1])

    def test_as_much_either_way_is_not_ore_by_itself(self):
        laid = bench(1, 1, 5, 3, 2, kilograms=[5], metal=[1])
        self.assertEqual(ask_last(laid, cell(0, 0)), [0, 5, 1, -10, -10, 0, 0])

    def test_one_more_than_as_waste_is_ore_by_itself(self):
        laid = bench(1, 1, 6, 3, 2, kilograms=[5], metal=[1])
        self.assertEqual(ask_last(laid, cell(0, 0)), [0, 5, 1, -9, -10, 0, 1])

    def test_no_kilograms_and_no_metal(self):
        self.assertEqual(ask_last(bench(1, 1, 9, 9, 9), cell(0, 0)), [0, 0, 0, 0, 0, 0, 0])

    def test_what_is_told_beforehand_does_not_make_it_ore_by_itself(self):
        found = ask(SIX, fix(0, 0, 1), cell(0, 0), fix(1, 1, 2), cell(1, 1))
        self.assertEqual(found[2], [0, 10, 1, -13, -10, 1, 0])
        self.assertEqual(found[4], [0, 50, 200, 1300, -50, 2, 1])


class ChangeTest(unittest.TestCase):
    def test_this_cell_has_it_and_no_other(self):
        found = ask(SIX, change(2, 1, 7, 8), *[cell(x, y) for y in range(2) for x in range(3)])
        self.assertEqual(found[1], [0])
        self.assertEqual([answer[1] for answer in found[2:]], KILOGRAMS[:5] + [7])
        self.assertEqual([answer[2] for answer in found[2:]], METAL[:5] + [8])

    def test_what_is_told_beforehand_stays(self):
        self.assertEqual(ask_last(SIX, fix(0, 1, 2), change(0, 1, 1, 1), cell(0, 1)), [0, 1, 1, 5, -1, 2, 1])

    def test_least_and_greatest(self):
        found = ask(SIX, change(0, 0, 0, 1000000000), cell(0, 0), change(0, 0, 1000000000, 0), cell(0, 0))
        self.assertEqual(found[2], [0, 0, 1000000000, 7000000000, 0, 0, 1])
        self.assertEqual(found[4], [0, 1000000000, 0, -2000000000, -1000000000, 0, 0])


class FixTest(unittest.TestCase):
    def test_tells_what_was_told_till_now(self):
        found = ask(SIX, *[fix(1, 0, k) for k in (1, 2, 2, 0, 1)])
        self.assertEqual(found[1:], [[0, 0], [0, 1], [0, 2], [0, 2], [0, 0]])

    def test_this_cell_alone(self):
        found = ask(SIX, fix(2, 1, 1), *[cell(x, y) for y in range(2) for x in range(3)])
        self.assertEqual([answer[5] for answer in found[2:]], [0, 0, 0, 0, 0, 1])

    def test_lines_go_by_what_is_told_now(self):
        laid = bench(2, 1, 1, 0, 0, metal=[5, 5])
        found = ask(laid, best(), fix(0, 0, 2), best(), fix(0, 0, 1), best(), fix(0, 0, 0), best())
        self.assertEqual(found[1::2], [[0, 10, 3], [0, 5, 2], [0, 10, 3], [0, 10, 3]])


class WidthsTest(unittest.TestCase):
    def test_tells_the_widths_till_now(self):
        found = ask(SIX, widths(7, 1, 4), widths(1, 7, 7), widths(2, 2, 2))
        self.assertEqual(found[1:], [[0, 1, 2, 3], [0, 7, 1, 4], [0, 1, 7, 7]])

    def test_each_holds_for_its_own_kind(self):
        narrow_ore, narrow_waste, narrow_neck = check([1, 1]), check([14, 14]), check([6, 12])
        asked = (narrow_ore, narrow_waste, narrow_neck)
        run, neck, well = [0, 0, 2, 0], [0, 0, 3, 1], [0, 1, 0]
        self.assertEqual(ask(bench(4, 2), widths(2, 1, 1), *asked)[2:], [run, well, well])
        self.assertEqual(ask(bench(4, 2), widths(1, 2, 1), *asked)[2:], [well, run, run])
        self.assertEqual(ask(bench(4, 2), widths(1, 1, 2), *asked)[2:], [neck, neck, neck])


class PriceTest(unittest.TestCase):
    def test_tells_the_price_till_now(self):
        found = ask(SIX, price(0), price(1000000), price(3))
        self.assertEqual(found[1:], [[0, 7], [0, 0], [0, 1000000]])

    def test_worths_go_by_the_price_now(self):
        found = ask(SIX, price(0), cell(0, 1), best(), price(1), cell(0, 1))
        self.assertEqual(found[2], [0, 40, 100, -80, -40, 0, 0])
        self.assertEqual(found[3], [0, -210, 0, 0])
        self.assertEqual(found[5], [0, 40, 100, 20, -40, 0, 1])


class ManyCallsTest(unittest.TestCase):
    def test_one_behind_another(self):
        calls = [bench(2, 2, 2, 1, 1, (1, 1, 1), [1, 2, 3, 4], [5, 0, 0, 5]), best(), table(1), check([1, 2]),
                 widths(1, 1, 2), best(), check([1, 2]), fix(0, 0, 2), best(), change(1, 1, 0, 0), best(), price(0),
                 cell(0, 0)]
        self.assertEqual(ask(*calls), [
            [0], [0, 10, 1, 2], [0, 0, -7, 1, -7, 2, 3, 3, 3], [0, 1, 10],
            [0, 1, 1, 1], [0, 10, 1, 2], [0, 1, 10], [0, 0], [0, 0, 0, 3], [0], [0, -6, 0, 0], [0, 2],
            [0, 1, 5, -1, -1, 2, 0],
        ])

    def test_all_kinds_one_behind_another(self):
        laid = bench(2, 2, 2, 1, 1, (1, 1, 1), [1, 2, 3, 4], [5, 0, 0, 5])
        calls = [told(), laid, count(), free(), losses([3, 1]), pieces([1, 2]), outlines([1, 3]),
                 fill([4, 0, 0, 2, 0, 2, 1, 0, 1]), runs(2), forced(0, 0, 2), fix(0, 0, 1), count(), forced(0, 0, 2),
                 widths(2, 1, 1), runs(2), count(), price(0), free(), best(), forced(1, 1, 2), change(1, 1, 0, 0),
                 losses([3, 1]), pieces([3, 2]), fill([]), told()]
        self.assertEqual(ask(*calls), [
            [-8], [0], [0, 16], [0, 9 - 2 - 3 + 6], [0, 6, 5, 4, 5, 5, 0, 10],
            [0, 0, 0, 1, 1, 5, 1, 1, 1, 4, 5], [0, 6, 0, 0, 1, 0, 1, 1, 2, 1, 2, 2, 0, 2],
            [0, 3, 0], [0, 1, 0, 0, 0, 1, 1, 1], [0, 0], [0, 0], [0, 8], [0, 0],
            [0, 1, 1, 1], [0, 0, 0, 0, 0, 1, 1, 1], [0, 2], [0, 2], [0, -10], [0, -10, 3, 0], [0, -10], [0],
            [0, 6, 5, 0, 0, 6, 5, 0], [0, 0, 0, 3, 3, 5], [0, 0, 0],
            [0, 2, 2, 0, 1, 1, 2, 1, 1, 1, 5, 2, 0, 3, 0, 0, 0, 1, 0, 0, 0],
        ])

    def test_how_many_numbers_stand_before_the_answers_of_one_cell(self):
        laid = bench(1, 1, 2, 1, 1, (1, 1, 1), [3], [4])
        calls = laid + count() + free() + losses([0]) + pieces([1]) + outlines([1]) + fill([]) + runs(1)
        calls += forced(0, 0, 2) + told() + runs(2) + count()
        self.assertEqual(answers(calls), [
            1, 0, 2, 0, 2, 2, 0, 5, 8, 0, 0, 0, 3, 4, 0, 0, 8, 6, 0, 0, 0, 1, 3, 4, 10, 0, 4, 0, 0, 1, 0, 1, 1, 0, 1,
            2, 0, 0, 5, 0, 1, 1, 0, 0, 2, 0, -3, 12, 0, 1, 1, 2, 1, 1, 1, 1, 1, 3, 4, 0, 1, -3, 2, 0, 2])

    def test_how_many_numbers_stand_before_each_answer(self):
        calls = SIX + cell(0, 0) + fix(0, 0, 1) + cell(9, 0) + best() + widths(1, 1, 1) + check([0, 0])
        self.assertEqual(answers(calls), [1, 0, 7, 0, 10, 1, -13, -10, 0, 0, 2, 0, 0, 1, -1, 4, 0, 3822, 7, 7,
                                          4, 0, 1, 2, 3, 4, 0, 0, 4, 0])

    def test_four_hundred_calls(self):
        calls = [SIX] + [fix(0, 0, k % 3) for k in range(399)]
        self.assertEqual(ask(*calls)[2:], [[0, k % 3] for k in range(398)])

    def test_twenty_searches_on_the_greatest_bench(self):
        metal = [at * 37 % 101 for at in range(56)]
        laid = bench(7, 8, 1, 1, 0, (1, 1, 1), [50] * 56, metal)
        found = ask(laid, *[best() for _ in range(10)], *[table(y % 8) for y in range(10)])
        self.assertEqual(found[1][1], sum(max(0, units - 50) for units in metal))
        self.assertEqual(found[1:11], [found[1]] * 10)
        self.assertEqual([len(answer) for answer in found[11:]], [257] * 10)


if __name__ == "__main__":
    unittest.main()
