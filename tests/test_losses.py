"""free, losses, runs and told: number by number, and held against the document's plain words."""

import random
import unittest

from tests.helper import (
    ask, ask_each, ask_last, bench, best, cell, change, check, drawn, fix, free, losses, price, runs, told, widths)

KILOGRAMS = [10, 20, 30, 40, 50, 60]
METAL = [1, 2, 3, 100, 200, 300]
# Row 0 is waste by itself (worth -13, -26, -39 as ore), row 1 is ore (620, 1300, 1980); dumping is 1 a kilogram.
SIX = bench(3, 2, 7, 2, 1, (1, 2, 3), KILOGRAMS, METAL)


def random_lines(source, plain):
    return [source.randrange(2 ** plain.nx) for _ in range(plain.ny)]


class FreeTest(unittest.TestCase):
    def test_numbers(self):
        self.assertEqual(ask_last(SIX, free()), [0, -60 + 620 + 1300 + 1980])

    def test_below_0(self):
        self.assertEqual(ask_last(bench(2, 1, 1, 3, 2, kilograms=[5, 7], metal=[0, 9]), free()), [0, -10 - 12])

    def test_what_is_told_beforehand_is_not_looked_at(self):
        found = ask(SIX, *[fix(x, y, 2 - y) for x in range(3) for y in range(2)], free(), best())
        self.assertEqual(found[-2], [0, 3840])
        found = ask(SIX, *[fix(x, y, 1 + y) for x in range(3) for y in range(2)], free())
        self.assertEqual(found[-1], [0, 3840])

    def test_widths_are_not_looked_at(self):
        self.assertEqual(ask_last(SIX, widths(7, 7, 7), free()), [0, 3840])

    def test_goes_by_what_is_there_now(self):
        found = ask(SIX, price(0), free(), change(2, 1, 0, 0), free(), bench(1, 1), free())
        self.assertEqual(found[2::2], [[0, -210], [0, -150], [0, 0]])

    def test_greatest(self):
        laid = bench(7, 8, 1000000, 0, 0, (7, 7, 7), [0] * 56, [1000000000] * 56)
        self.assertEqual(ask_last(laid, free()), [0, 56 * 10 ** 15])

    def test_no_lines_are_worth_more(self):
        source = random.Random(41)
        for _ in range(20):
            plain = drawn(source, source.randint(1, 7), source.randint(1, 8), spread=20, told_share=0)
            found = ask(*plain.calls(), free(), best(), widths(1, 1, 1), best())
            self.assertEqual(found[1], plain.free())
            self.assertLessEqual(found[2][1], found[1][1])
            self.assertEqual(found[4][1], found[1][1])


class LossesTest(unittest.TestCase):
    def test_numbers(self):
        # Cells (0, 0) and (0, 1) go as ore: the first dilutes, and (1, 1) and (2, 1) are lost.
        worth = -13 - 20 - 30 + 620 - 50 - 60
        self.assertEqual(ask_last(SIX, losses([1, 1])), [0, 50, 101, 110, 500, 10, 1, 3840 - worth])

    def test_each_cell_as_by_itself_loses_nothing(self):
        self.assertEqual(ask_last(SIX, losses([0, 7])), [0, 150, 600, 0, 0, 0, 0, 0])

    def test_each_cell_otherwise(self):
        self.assertEqual(ask_last(SIX, losses([7, 0])), [0, 60, 6, 150, 600, 60, 6, 3840 + 78 + 150])

    def test_no_ore_and_all_ore(self):
        found = ask(SIX, losses([0, 0]), losses([7, 7]))
        self.assertEqual(found[1:], [[0, 0, 0, 150, 600, 0, 0, 3840 + 210], [0, 210, 606, 0, 0, 60, 6, 3840 - 3822]])

    def test_a_cell_worth_as_much_either_way_is_waste_by_itself(self):
        laid = bench(2, 1, 5, 3, 2, kilograms=[5, 5], metal=[1, 1])
        found = ask(laid, losses([0]), losses([1]))
        self.assertEqual(found[1:], [[0, 0, 0, 0, 0, 0, 0, 0], [0, 5, 1, 0, 0, 5, 1, 0]])

    def test_of_lines_that_may_not_be_drawn(self):
        found = ask(SIX, widths(7, 7, 7), fix(0, 0, 2), fix(1, 1, 1), check([1, 1]), losses([1, 1]))
        self.assertEqual(found[4:], [[0, 0, 2, 0], [0, 50, 101, 110, 500, 10, 1, 3393]])

    def test_what_is_told_beforehand_is_not_looked_at(self):
        self.assertEqual(ask_last(SIX, fix(0, 0, 1), fix(0, 1, 2), losses([0, 7])), [0, 150, 600, 0, 0, 0, 0, 0])

    def test_goes_by_what_is_there_now(self):
        found = ask(SIX, price(0), losses([0, 7]), change(0, 1, 1, 1), losses([0, 7]))
        self.assertEqual(found[2::2], [[0, 150, 600, 0, 0, 150, 600, 150], [0, 111, 501, 0, 0, 111, 501, 111]])

    def test_greatest_pattern_of_each_width(self):
        for nx in range(1, 8):
            for ny in (1, 8):
                laid = bench(nx, ny, 1, 0, 0, kilograms=[2] * (nx * ny), metal=[3] * (nx * ny))
                found = ask(laid, losses([2 ** nx - 1] * ny))
                self.assertEqual(found[1], [0, 2 * nx * ny, 3 * nx * ny, 0, 0, 0, 0, 0])

    def test_by_the_plain_words(self):
        source = random.Random(42)
        for _ in range(60):
            plain = drawn(source, source.randint(1, 7), source.randint(1, 8))
            each = [random_lines(source, plain) for _ in range(8)]
            found = ask_each(plain.calls(), [losses(lines) for lines in each])
            self.assertEqual(found, [plain.losses(lines) for lines in each])

    def test_best_loses_what_free_tells_more(self):
        source = random.Random(43)
        for _ in range(10):
            plain = drawn(source, source.randint(2, 6), source.randint(2, 5), told_share=0)
            told_best = ask_last(*plain.calls(), best())
            found = ask(*plain.calls(), free(), losses(told_best[2:]))
            self.assertEqual(found[2][7], found[1][1] - told_best[1])


class OreIsWhatWouldByItselfTest(unittest.TestCase):
    """Promise 2, in kilograms and in metal."""

    def test_less_what_is_lost_and_what_dilutes(self):
        source = random.Random(44)
        for _ in range(60):
            plain = drawn(source, source.randint(1, 7), source.randint(1, 8), spread=40)
            lines = random_lines(source, plain)
            places = [(x, y) for y in range(plain.ny) for x in range(plain.nx)]
            found = ask(*plain.calls(), losses(lines), *[cell(x, y) for x, y in places])
            cells = found[-len(places):]
            told_losses = found[-len(places) - 1]
            for which in (0, 1):
                would = sum(answer[1 + which] for answer in cells if answer[6] == 1)
                self.assertEqual(told_losses[1 + which], would - told_losses[3 + which] + told_losses[5 + which])


class RunsTest(unittest.TestCase):
    def test_numbers(self):
        laid = bench(7, 1, widths=(2, 1, 1))
        self.assertEqual(ask_last(laid, runs(0b0110011)), [0, 1, 1, 0, 1, 0, 2, 3, 1, 4, 5, 0, 6, 6])
        self.assertEqual(ask_last(laid, runs(0b0100011)), [0, 0, 1, 0, 1, 0, 2, 4, 1, 5, 5, 0, 6, 6])

    def test_one_run(self):
        found = ask(bench(7, 1, widths=(7, 7, 7)), runs(0), runs(127), bench(1, 8, widths=(7, 7, 7)), runs(0), runs(1))
        self.assertEqual(found[1:3], [[0, 1, 0, 0, 6], [0, 1, 1, 0, 6]])
        self.assertEqual(found[4:], [[0, 1, 0, 0, 0], [0, 1, 1, 0, 0]])

    def test_each_width_holds_for_its_own_kind(self):
        laid = bench(5, 1)
        found = ask(laid, widths(2, 3, 7), runs(3), widths(3, 3, 7), runs(3), widths(2, 4, 7), runs(3),
                    widths(2, 2, 7), runs(28), widths(4, 2, 1), runs(28))
        self.assertEqual([answer[1] for answer in found[2::2]], [1, 0, 0, 1, 0])

    def test_necks_and_what_is_told_are_not_looked_at(self):
        found = ask(bench(3, 2, widths=(1, 1, 7)), fix(0, 0, 2), fix(0, 1, 2), runs(1))
        self.assertEqual(found[3], [0, 1, 1, 0, 0, 0, 1, 2])

    def test_each_pattern_of_each_width(self):
        source = random.Random(45)
        for nx in range(1, 8):
            for _ in range(5):
                plain = drawn(source, nx, 1)
                found = ask_each(plain.calls(), [runs(p) for p in range(2 ** nx)])
                self.assertEqual(found, [plain.runs_told(p) for p in range(2 ** nx)], plain.widths)

    def test_agrees_with_check(self):
        source = random.Random(46)
        for nx in range(1, 8):
            plain = drawn(source, nx, 1, told_share=0)
            asked = [call for p in range(2 ** nx) for call in (runs(p), check([p]))]
            found = ask_each(plain.calls(), asked)
            self.assertEqual([answer[1] for answer in found[0::2]], [answer[1] for answer in found[1::2]])

    def test_a_pattern_too_great(self):
        for nx in range(1, 7):
            found = ask(bench(nx, 2), runs(2 ** nx - 1), runs(2 ** nx), runs(127))
            self.assertEqual([answer[0] for answer in found[1:]], [0, -3, -3])
        self.assertEqual(ask(bench(7, 2), runs(127), runs(128))[1:], [[0, 1, 1, 0, 6], [-1]])


class ToldTest(unittest.TestCase):
    CELLS = [10, 1, 20, 2, 30, 3, 40, 100, 50, 200, 60, 300]

    def test_numbers(self):
        self.assertEqual(ask_last(SIX, told()), [0, 3, 2, 7, 2, 1, 1, 2, 3] + self.CELLS + [0] * 6)

    def test_follows_each_call_that_changes_something(self):
        found = ask(SIX, fix(2, 0, 1), told(), fix(0, 1, 2), told(), change(1, 0, 8, 9), told(), widths(4, 5, 6), told(),
                    price(11), told(), fix(2, 0, 0), told())
        cells = self.CELLS[:2] + [8, 9] + self.CELLS[4:]
        self.assertEqual(found[2::2], [
            [0, 3, 2, 7, 2, 1, 1, 2, 3] + self.CELLS + [0, 0, 1, 0, 0, 0],
            [0, 3, 2, 7, 2, 1, 1, 2, 3] + self.CELLS + [0, 0, 1, 2, 0, 0],
            [0, 3, 2, 7, 2, 1, 1, 2, 3] + cells + [0, 0, 1, 2, 0, 0],
            [0, 3, 2, 7, 2, 1, 4, 5, 6] + cells + [0, 0, 1, 2, 0, 0],
            [0, 3, 2, 11, 2, 1, 4, 5, 6] + cells + [0, 0, 1, 2, 0, 0],
            [0, 3, 2, 11, 2, 1, 4, 5, 6] + cells + [0, 0, 0, 2, 0, 0],
        ])

    def test_a_new_bench(self):
        found = ask(SIX, fix(0, 0, 1), bench(1, 2, 3, 4, 5, (6, 7, 1), [8, 9], [10, 11]), told())
        self.assertEqual(found[3], [0, 1, 2, 3, 4, 5, 6, 7, 1, 8, 10, 9, 11, 0, 0])

    def test_least_and_greatest(self):
        laid = bench(7, 8, 1000000, 1000000, 1000000, (7, 7, 7), [1000000000] * 56, [1000000000] * 56)
        found = ask(laid, told(), bench(1, 1, 0, 0, 0), told())
        self.assertEqual(found[1], [0, 7, 8] + [1000000] * 3 + [7] * 3 + [1000000000] * 112 + [0] * 56)
        self.assertEqual(found[3], [0, 1, 1, 0, 0, 0, 1, 1, 1, 0, 0, 0])

    def test_drawn_benches(self):
        source = random.Random(47)
        for _ in range(20):
            plain = drawn(source, source.randint(1, 7), source.randint(1, 8), spread=1000)
            self.assertEqual(ask_last(*plain.calls(), told()), plain.told_all())

    def test_agrees_with_cell(self):
        plain = drawn(random.Random(48), 4, 3)
        places = [(x, y) for y in range(3) for x in range(4)]
        found = ask(*plain.calls(), told(), *[cell(x, y) for x, y in places])
        whole, cells = found[-13], found[-12:]
        self.assertEqual(whole[9:33], [amount for answer in cells for amount in answer[1:3]])
        self.assertEqual(whole[33:], [answer[5] for answer in cells])


if __name__ == "__main__":
    unittest.main()
