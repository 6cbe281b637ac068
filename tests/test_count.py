"""count and forced, held against a plain search over all lines, and against best, table and check."""

import itertools
import random
import unittest

from tests.helper import (
    ask, ask_each, ask_last, bench, best, cell, check, count, drawn, fix, forced, price, table, told, widths)

SMALL = ((1, 1), (1, 4), (2, 1), (2, 3), (3, 1), (3, 2), (4, 2), (5, 2), (2, 4), (1, 8), (7, 1))


def each_forced(plain):
    return [(x, y, k) for y in range(plain.ny) for x in range(plain.nx) for k in (1, 2)]


class PlainSearchTest(unittest.TestCase):
    def hold(self, plain):
        where = (plain.nx, plain.ny, plain.widths, plain.told)
        asked = each_forced(plain)
        found = ask_each(plain.calls(), [count()] + [forced(*one) for one in asked])
        self.assertEqual(found[0], plain.count(), where)
        for one, answer in zip(asked, found[1:]):
            self.assertEqual(answer, plain.forced(*one), where + one)

    def test_small_benches(self):
        source = random.Random(31)
        for nx, ny in SMALL:
            for _ in range(4):
                self.hold(drawn(source, nx, ny))

    def test_small_benches_with_much_told_beforehand(self):
        source = random.Random(32)
        for nx, ny in SMALL:
            for _ in range(6):
                self.hold(drawn(source, nx, ny, told_share=0.6))

    def test_three_by_three(self):
        source = random.Random(33)
        for _ in range(4):
            self.hold(drawn(source, 3, 3))

    def test_count_with_each_three_widths(self):
        source = random.Random(34)
        for chosen in itertools.product(range(1, 6), repeat=3):
            plain = drawn(source, 4, 2, told_share=0.05)
            plain.widths = chosen
            self.assertEqual(ask_last(*plain.calls(), count()), plain.count(), (chosen, plain.told))

    def test_count_of_the_widest_rows(self):
        source = random.Random(35)
        for chosen in ((1, 1, 1), (2, 1, 3), (1, 3, 2), (3, 2, 4), (1, 1, 7), (7, 7, 7), (1, 7, 1), (6, 1, 1)):
            plain = drawn(source, 7, 2, told_share=0)
            plain.widths = chosen
            self.assertEqual(ask_last(*plain.calls(), count()), plain.count(), chosen)


class CountTest(unittest.TestCase):
    def test_all_widths_1(self):
        for nx, ny in ((1, 1), (1, 8), (7, 1), (3, 5), (7, 8)):
            self.assertEqual(ask_last(bench(nx, ny), count()), [0, 2 ** (nx * ny)])

    def test_one_way_for_each_cell_that_is_told(self):
        found = ask(bench(7, 8), fix(0, 0, 1), count(), fix(6, 7, 2), count(), fix(6, 7, 1), count(), fix(0, 0, 0), count())
        self.assertEqual(found[2::2], [[0, 2 ** 55], [0, 2 ** 54], [0, 2 ** 54], [0, 2 ** 55]])

    def test_all_cells_told(self):
        self.assertEqual(ask_last(bench(2, 2), *[fix(x, y, 1 + x) for x in (0, 1) for y in (0, 1)], count()), [0, 1])

    def test_widest_runs_leave_whole_rows(self):
        self.assertEqual(ask_last(bench(7, 8, widths=(7, 7, 7)), count()), [0, 256])
        self.assertEqual(ask_last(bench(1, 8, widths=(7, 7, 7)), count()), [0, 256])

    def test_each_width_counts(self):
        laid = bench(4, 1)
        found = ask(laid, widths(2, 1, 1), count(), widths(1, 2, 1), count(), widths(2, 2, 1), count(),
                    widths(1, 1, 4), count())
        # With widths of ore 2: 0, 3, 6, 7, 12, 14, 15.
        self.assertEqual(found[2::2], [[0, 7], [0, 7], [0, 4], [0, 16]])
        # Necks of 2 in two rows of two cells: a row of both ways goes beside its opposite alone.
        self.assertEqual(ask_last(bench(2, 2, widths=(1, 1, 2)), count()), [0, 6])

    def test_none_is_no_refusal(self):
        laid = bench(3, 2, widths=(2, 2, 1))
        found = ask(laid, fix(0, 1, 1), fix(1, 1, 2), fix(2, 1, 1), count(), best(), count())
        self.assertEqual(found[4:], [[0, 0], [-4], [0, 0]])

    def test_none_by_a_row_in_the_middle(self):
        laid = bench(2, 3, widths=(1, 1, 2))
        found = ask(laid, fix(0, 0, 1), fix(1, 0, 2), fix(0, 1, 1), count(), fix(0, 1, 0), count())
        self.assertEqual(found[4::2], [[0, 0], [0, 1]])

    def test_kilograms_metal_and_price_do_not_matter(self):
        found = ask(bench(3, 3, 5, 4, 3, (2, 1, 2), range(9), range(9)), count(), price(0), count(),
                    bench(3, 3, widths=(2, 1, 2)), count())
        self.assertEqual(found[1::2], [found[1]] * 3)


class ForcedTest(unittest.TestCase):
    LAID = bench(3, 1, 1, 1, 0, (2, 1, 1), [2] * 3, [0, 9, 1])

    def test_numbers(self):
        # 0 is worth 0, 3 is worth 5, 6 is worth 6, 7 is worth 4.
        found = ask(self.LAID, *[forced(x, 0, k) for x in range(3) for k in (1, 2)])
        self.assertEqual(found[1:], [[0, 5], [0, 6], [0, 6], [0, 0], [0, 6], [0, 5]])

    def test_of_a_cell_of_which_the_other_is_told_now(self):
        found = ask(self.LAID, fix(1, 0, 2), forced(1, 0, 1), forced(1, 0, 2), fix(1, 0, 1), forced(1, 0, 2), forced(1, 0, 1))
        self.assertEqual(found[2:4], [[0, 6], [0, 0]])
        self.assertEqual(found[5:], [[0, 0], [0, 6]])

    def test_other_cells_stay_as_told(self):
        found = ask(self.LAID, fix(0, 0, 1), forced(2, 0, 1), forced(2, 0, 2), fix(2, 0, 1), forced(0, 0, 2))
        self.assertEqual(found[2:4], [[0, 4], [0, 5]])
        self.assertEqual(found[5], [0, 6])

    def test_no_lines_could(self):
        found = ask(self.LAID, fix(0, 0, 2), fix(2, 0, 2), forced(1, 0, 1), forced(1, 0, 2), best())
        self.assertEqual(found[3:], [[-4], [0, 0], [0, 0, 0]])

    def test_lines_could_where_now_none_may_be_drawn(self):
        found = ask(self.LAID, fix(0, 0, 2), fix(1, 0, 1), fix(2, 0, 2), best(), forced(1, 0, 2), forced(2, 0, 1),
                    forced(2, 0, 2), best())
        self.assertEqual(found[4:], [[-4], [0, 0], [0, 6], [-4], [-4]])

    def test_leaves_what_is_told_as_it_was(self):
        for before in (0, 1, 2):
            asked = [told(), cell(1, 0), best(), table(0), count(), check([0]), check([3])]
            for k in (1, 2):
                found = ask(self.LAID, fix(1, 0, before), *asked, forced(1, 0, k), *asked, fix(1, 0, 0))
                self.assertEqual(found[2:9], found[10:17])
                self.assertEqual(found[-1], [0, before])

    def test_goes_by_the_widths_the_price_and_the_cells_now(self):
        source = random.Random(36)
        plain = drawn(source, 3, 2)
        calls = plain.calls()
        for _ in range(10):
            plain.price = source.randint(0, 4)
            plain.widths = tuple(source.randint(1, 3) for _ in range(3))
            calls += [price(plain.price), widths(*plain.widths)]
            for one in each_forced(plain)[::5]:
                self.assertEqual(ask_last(*calls, forced(*one)), plain.forced(*one))

    def test_the_corners_of_the_greatest_bench(self):
        laid = bench(7, 8, 1000000, 0, 0, (7, 7, 1), [0] * 56, [1000000000] * 56)
        found = ask(laid, *[forced(x, y, k) for x in (0, 6) for y in (0, 7) for k in (1, 2)])
        self.assertEqual(found[1:], [[0, 56 * 10 ** 15], [0, 49 * 10 ** 15]] * 4)


class AgreeTest(unittest.TestCase):
    """Promise 1: best, table, check, count and forced tell one thing."""

    def test_check_of_all_lines_agrees(self):
        source = random.Random(37)
        for nx, ny in ((1, 5), (2, 3), (3, 2), (4, 2), (3, 3)):
            for _ in range(3):
                self.hold_over_all_lines(drawn(source, nx, ny))

    def hold_over_all_lines(self, plain):
        each = list(itertools.product(range(2 ** plain.nx), repeat=plain.ny))
        found = ask_each(plain.calls(), [check(lines) for lines in each])
        worths = {lines: answer[2] for lines, answer in zip(each, found) if answer[1] == 1}
        counted, told_best, first_table = ask(*plain.calls(), count(), best(), table(0))[-3:]
        self.assertEqual(counted, [0, len(worths)])
        if not worths:
            self.assertEqual((told_best, first_table), ([-4], [0]))
            return
        most = max(worths.values())
        self.assertEqual(told_best, [0, most] + list(min(lines for lines in worths if worths[lines] == most)))
        self.assertEqual(max(first_table[2::2]), most)
        for x, y, k in each_forced(plain):
            if plain.told[y * plain.nx + x] == 0:
                having = [worth for lines, worth in worths.items() if (lines[y] >> x) % 2 == 2 - k]
                self.assertEqual(ask_last(*plain.calls(), forced(x, y, k)), [0, max(having)] if having else [-4])

    def test_best_is_the_better_of_the_two_ways_of_each_cell(self):
        source = random.Random(38)
        for nx, ny in ((7, 8), (6, 5), (5, 8)):
            plain = drawn(source, nx, ny, spread=30, told_share=0)
            asked = source.sample([(x, y) for y in range(ny) for x in range(nx)], 9)
            found = ask(*plain.calls(), best(), *[forced(x, y, k) for x, y in asked for k in (1, 2)])
            told_best, ways = found[1], found[2:]
            for at, (x, y) in enumerate(asked):
                as_ore, as_waste = ways[2 * at], ways[2 * at + 1]
                self.assertEqual(max(answer[1] for answer in (as_ore, as_waste) if answer[0] == 0), told_best[1])
                taken = as_ore if (told_best[2 + y] >> x) % 2 else as_waste
                self.assertEqual(taken, told_best[:2])


class WiderNeverMoreTest(unittest.TestCase):
    """Promise 4, of forced and of how many lines there are."""

    def test_each_width_by_itself(self):
        source = random.Random(39)
        for _ in range(4):
            plain = drawn(source, source.randint(3, 7), source.randint(2, 5), spread=20, told_share=0.05)
            x, y, k = source.choice(each_forced(plain))
            for which in range(3):
                self.hold(plain, which, forced(x, y, k))

    def hold(self, plain, which, force):
        chosen = list(plain.widths)
        asked = []
        for width in range(1, 8):
            chosen[which] = width
            asked += [widths(*chosen), count(), force]
        found = ask(*plain.calls(), *asked)[-21:]
        counts = [answer[1] for answer in found[1::3]]
        self.assertEqual(counts, sorted(counts, reverse=True))
        worths = [answer[1] for answer in found[2::3] if answer != [-4]]
        self.assertEqual(worths, sorted(worths, reverse=True))
        self.assertEqual([answer == [-4] for answer in found[2::3]], sorted(answer == [-4] for answer in found[2::3]))


if __name__ == "__main__":
    unittest.main()
