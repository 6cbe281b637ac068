"""best and table, held against a plain search over all lines and against one another."""

import random
import unittest

from tests.helper import Plain, ask, ask_last, bench, best, check, drawn, fix, price, table, widths

SMALL = ((1, 1), (1, 4), (2, 1), (2, 3), (3, 1), (3, 2), (3, 3), (4, 2), (4, 3), (5, 2), (2, 5), (1, 8), (7, 1))


def pairs(answer):
    return dict(zip(answer[1::2], answer[2::2]))


class PlainSearchTest(unittest.TestCase):
    def hold(self, plain):
        asked = [best()] + [table(y) for y in range(plain.ny)]
        found = ask(*plain.calls(), *asked)[-len(asked):]
        told = (plain.nx, plain.ny, plain.widths, plain.told)
        self.assertEqual(found[0], plain.best(), told)
        for y in range(plain.ny):
            self.assertEqual(found[1 + y], plain.table(y), told + (y,))

    def test_small_benches(self):
        source = random.Random(1)
        for nx, ny in SMALL:
            for _ in range(25):
                self.hold(drawn(source, nx, ny))

    def test_small_benches_with_much_told_beforehand(self):
        source = random.Random(2)
        for nx, ny in SMALL:
            for _ in range(15):
                self.hold(drawn(source, nx, ny, told_share=0.7))

    def test_small_benches_where_much_is_worth_the_same(self):
        source = random.Random(3)
        for nx, ny in SMALL:
            for _ in range(15):
                self.hold(drawn(source, nx, ny, spread=1, told_share=0.1))

    def test_each_three_widths(self):
        source = random.Random(4)
        for ore in range(1, 6):
            for waste in range(1, 6):
                for necks in range(1, 6):
                    plain = drawn(source, 4, 2, told_share=0)
                    plain.widths = (ore, waste, necks)
                    self.hold(plain)

    def test_widest_rows(self):
        source = random.Random(5)
        for chosen in ((1, 1, 1), (2, 1, 3), (1, 3, 2), (3, 2, 4), (1, 1, 7), (7, 7, 7), (1, 7, 1), (6, 1, 1)):
            plain = drawn(source, 7, 2, told_share=0.1)
            plain.widths = chosen
            self.hold(plain)


class BestTest(unittest.TestCase):
    def test_numbers(self):
        laid = bench(3, 2, 2, 2, 1, (2, 1, 2), [1] * 6, [9, 0, 9, 9, 9, 0])
        self.assertEqual(ask_last(laid, best()), [0, 61, 7, 3])

    def test_worth_below_0(self):
        laid = bench(2, 2, 1, 3, 2, kilograms=[1, 2, 3, 4], metal=[0] * 4)
        self.assertEqual(ask_last(laid, best()), [0, -20, 0, 0])

    def test_nothing_in_the_cells_takes_the_least_patterns(self):
        self.assertEqual(ask_last(bench(7, 8, 9, 9, 9), best()), [0, 0] + [0] * 8)

    def test_first_pattern_that_differs_is_less(self):
        laid = bench(2, 2, 1, 1, 0, (1, 1, 1), [9, 9, 9, 9], [9, 9, 9, 9])
        self.assertEqual(ask_last(laid, best()), [0, 0, 0, 0])
        self.assertEqual(ask_last(laid, fix(1, 0, 1), best()), [0, 0, 2, 0])

    def test_a_less_later_pattern_does_not_outweigh_a_less_first_one(self):
        # What may be drawn is 0, 3 and 1, 2 and 3, 3; all are worth 0.
        found = ask_last(bench(2, 2, widths=(1, 1, 2)), fix(1, 1, 1), best())
        self.assertEqual(found, [0, 0, 0, 3])

    def test_one_cell(self):
        self.assertEqual(ask_last(bench(1, 1, 3, 1, 1, (7, 7, 7), [1], [1]), best()), [0, 2, 1])

    def test_greatest_worth(self):
        laid = bench(7, 8, 1000000, 0, 0, (7, 7, 7), [0] * 56, [1000000000] * 56)
        self.assertEqual(ask_last(laid, best()), [0, 56 * 10 ** 15] + [127] * 8)
        laid = bench(7, 8, 0, 1000000, 1000000, (1, 1, 1), [1000000000] * 56, [0] * 56)
        self.assertEqual(ask_last(laid, best()), [0, -56 * 10 ** 15] + [0] * 8)

    def test_no_lines_by_a_run(self):
        laid = bench(3, 1, widths=(2, 1, 1))
        found = ask(laid, fix(0, 0, 2), fix(1, 0, 1), fix(2, 0, 2), best(), table(0), fix(2, 0, 0), best())
        self.assertEqual(found[4:], [[-4], [0], [0, 2], [0, 0, 6]])

    def test_no_lines_by_a_neck(self):
        laid = bench(3, 2, widths=(1, 1, 2))
        fixed = [fix(0, 0, 1), fix(1, 0, 2), fix(0, 1, 1), fix(1, 1, 2)]
        found = ask(laid, *fixed, best(), table(0), table(1), widths(1, 1, 1), best())
        self.assertEqual(found[5:], [[-4], [0], [0, 1, 0, 5, 0], [0, 1, 1, 2], [0, 0, 1, 1]])

    def test_a_run_as_wide_as_the_row_may_be_narrower_than_its_width(self):
        laid = bench(3, 2, 1, 0, 0, (7, 7, 7), metal=[1, 1, 1, 0, 0, 0])
        self.assertEqual(ask(laid, best(), fix(0, 1, 2), best())[1::2], [[0, 3, 7, 0], [0, 3, 7, 0]])


class TableTest(unittest.TestCase):
    def test_first_row_last_row_and_one_that_is_not_there(self):
        laid = bench(2, 3, 1, 0, 0, (1, 1, 1), metal=[1, 2, 4, 8, 16, 32])
        found = ask(laid, table(0), table(1), table(2), table(3), table(7))
        self.assertEqual(found[1:], [
            [0, 0, 60, 1, 61, 2, 62, 3, 63], [0, 0, 48, 1, 52, 2, 56, 3, 60], [0, 0, 0, 1, 16, 2, 32, 3, 48],
            [-2], [-2]])

    def test_rows_before_are_not_looked_at(self):
        laid = bench(2, 2, 1, 0, 0, (1, 1, 2), metal=[1, 1, 1, 1])
        found = ask(laid, fix(0, 0, 1), fix(1, 0, 2), table(1), table(0))
        self.assertEqual(found[3:], [[0, 0, 0, 1, 1, 2, 1, 3, 2], [0, 1, 2]])

    def test_only_patterns_with_which_all_rows_behind_may_be_drawn(self):
        laid = bench(2, 3, widths=(1, 1, 2))
        fixed = [fix(0, 2, 1), fix(1, 2, 2)]
        self.assertEqual(ask_last(laid, *fixed, table(1)), [0, 2, 0])
        self.assertEqual(ask_last(laid, *fixed, table(0)), [0, 1, 0])

    def test_no_pattern_at_all_is_no_refusal(self):
        laid = bench(3, 2, widths=(2, 2, 1))
        found = ask(laid, fix(0, 1, 1), fix(1, 1, 2), fix(2, 1, 1), table(1), table(0))
        self.assertEqual(found[4:], [[0], [0]])

    def test_no_pattern_of_an_earlier_row_alone(self):
        laid = bench(3, 2, widths=(2, 2, 3))
        found = ask(laid, fix(0, 0, 1), fix(1, 0, 2), fix(2, 0, 1), table(1), table(0), best())
        self.assertEqual(found[4:], [[0, 0, 0, 7, 0], [0], [-4]])


class NoneBetterTest(unittest.TestCase):
    """Promise 1 on benches too large for a plain search: the tables show it by sums."""

    def test_tables_show_it_by_sums(self):
        source = random.Random(6)
        for nx, ny in ((7, 8), (7, 3), (6, 8), (5, 7)):
            for _ in range(2):
                self.hold_by_sums(drawn(source, nx, ny, spread=20, told_share=0.05))

    def hold_by_sums(self, plain):
        asked = [best()] + [table(y) for y in range(plain.ny)]
        found = ask(*plain.calls(), *asked)[-len(asked):]
        tables = [pairs(answer) for answer in found[1:]]
        for y in range(plain.ny):
            self.assertEqual(list(tables[y]), sorted(tables[y]))
            self.assertEqual(tables[y], self.row_by_sums(plain, tables, y))
        if found[0] == [-4]:
            self.assertEqual(tables[0], {})
            return
        self.assertEqual(found[0][1], max(tables[0].values()))
        self.assertEqual(ask_last(*plain.calls(), check(found[0][2:])), [0, 1, found[0][1]])

    def row_by_sums(self, plain, tables, y):
        sums = {}
        for pattern in range(2 ** plain.nx):
            if not plain.row_ok(pattern) or not plain.told_ok(y, pattern):
                continue
            behind = [0]
            if y + 1 < plain.ny:
                behind = [most for other, most in tables[y + 1].items() if plain.neck_ok(pattern, other)]
            if behind:
                sums[pattern] = plain.worth([pattern], y) + max(behind)
        return sums


class WiderNeverBetterTest(unittest.TestCase):
    """Promise 4."""

    def test_each_width_by_itself(self):
        source = random.Random(7)
        for _ in range(12):
            plain = drawn(source, source.randint(3, 7), source.randint(2, 6), spread=20, told_share=0.05)
            for which in range(3):
                self.hold_never_better(plain, which)

    def hold_never_better(self, plain, which):
        chosen = list(plain.widths)
        asked = []
        for width in range(1, 8):
            chosen[which] = width
            asked += [widths(*chosen), best()]
        found = ask(*plain.calls(), *asked)[-13::2]
        worths = [answer[1] if answer != [-4] else None for answer in found]
        for narrower, wider in zip(worths, worths[1:]):
            if wider is not None:
                self.assertIsNotNone(narrower)
                self.assertGreaterEqual(narrower, wider)

    def test_a_width_that_costs_something(self):
        laid = bench(3, 1, 1, 1, 0, kilograms=[2] * 3, metal=[0, 9, 0])
        found = ask(laid, best(), widths(2, 1, 1), best(), widths(3, 1, 1), best(), widths(1, 2, 1), best())
        self.assertEqual(found[1::2], [[0, 7, 2], [0, 5, 3], [0, 3, 7], [0, 3, 7]])


class LaterCallsTest(unittest.TestCase):
    def test_best_follows_what_was_changed(self):
        source = random.Random(8)
        plain = drawn(source, 3, 3)
        calls = plain.calls()
        for _ in range(15):
            at = source.randrange(9)
            plain.told[at] = source.choice((0, 0, 1, 2))
            plain.price = source.randint(0, 4)
            plain.widths = tuple(source.randint(1, 3) for _ in range(3))
            calls += [fix(at % 3, at // 3, plain.told[at]), price(plain.price), widths(*plain.widths), best()]
            self.assertEqual(ask_last(*calls), plain.best())

    def test_asking_changes_nothing(self):
        plain = drawn(random.Random(9), 4, 3)
        asked = [best(), table(1), table(0), check([0, 0, 0])]
        found = ask(*plain.calls(), *asked, *asked)
        self.assertEqual(found[-8:-4], found[-4:])


if __name__ == "__main__":
    unittest.main()
