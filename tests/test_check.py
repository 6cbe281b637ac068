"""check: lines that may be drawn, each kind of fault, and which is told where several are there."""

import random
import unittest

from tests.helper import ask, ask_last, bench, best, check, drawn, fix, widths


class MayBeDrawnTest(unittest.TestCase):
    def test_worth(self):
        laid = bench(2, 2, 3, 2, 1, kilograms=[1, 2, 3, 4], metal=[5, 6, 7, 8])
        found = ask(laid, check([0, 0]), check([3, 3]), check([1, 2]), check([2, 1]))
        self.assertEqual(found[1:], [[0, 1, -10], [0, 1, 58], [0, 1, 13 - 2 - 3 + 16], [0, 1, -1 + 14 + 15 - 4]])

    def test_worth_below_0(self):
        laid = bench(1, 2, 1, 9, 0, kilograms=[1, 2], metal=[1, 1])
        self.assertEqual(ask_last(laid, check([1, 1])), [0, 1, -25])

    def test_best_lines_may_be_drawn(self):
        source = random.Random(11)
        for _ in range(30):
            plain = drawn(source, source.randint(1, 7), source.randint(1, 8), told_share=0.05)
            found = ask_last(*plain.calls(), best())
            if found != [-4]:
                self.assertEqual(ask_last(*plain.calls(), check(found[2:])), [0, 1, found[1]])

    def test_by_the_plain_words(self):
        source = random.Random(12)
        kinds = {}
        for _ in range(60):
            plain = drawn(source, source.randint(1, 5), source.randint(1, 4), told_share=0.1)
            drawn_lines = [[source.randrange(2 ** plain.nx + source.randrange(2)) for _ in range(plain.ny)]
                           for _ in range(30)]
            found = ask(*plain.calls(), *[check(lines) for lines in drawn_lines])[-30:]
            for lines, answer in zip(drawn_lines, found):
                self.assertEqual(answer, plain.check(lines), (plain.nx, plain.widths, plain.told, lines))
                kind = answer[2] if answer[1] == 0 else 0
                kinds[kind] = kinds.get(kind, 0) + 1
        self.assertEqual(sorted(kinds), [0, 1, 2, 3, 4])


class KindsTest(unittest.TestCase):
    def test_1_a_number_too_great(self):
        self.assertEqual(ask_last(bench(3, 3), check([7, 8, 0])), [0, 0, 1, 1])
        self.assertEqual(ask_last(bench(3, 3), check([7, 7, 127])), [0, 0, 1, 2])
        self.assertEqual(ask_last(bench(7, 1), check([127])), [0, 1, 0])
        self.assertEqual(ask_last(bench(1, 1), check([2])), [0, 0, 1, 0])
        self.assertEqual(ask_last(bench(1, 1), check([1])), [0, 1, 0])

    def test_2_a_run_too_narrow(self):
        laid = bench(5, 2, widths=(2, 3, 1))
        found = ask(laid, check([3, 1]), check([24, 16]), check([0, 4]), check([7, 0]), check([15, 0]))
        self.assertEqual([answer[1:] for answer in found[1:]],
                         [[0, 2, 1], [0, 2, 1], [0, 2, 1], [0, 2, 0], [0, 2, 0]])

    def test_2_as_wide_as_its_width_is_wide_enough(self):
        laid = bench(5, 1, widths=(2, 3, 1))
        self.assertEqual(ask(laid, check([3]), check([24]))[1:], [[0, 1, 0], [0, 1, 0]])
        self.assertEqual(ask(laid, widths(3, 3, 1), check([3]))[2], [0, 0, 2, 0])
        self.assertEqual(ask(laid, widths(2, 4, 1), check([3]))[2], [0, 0, 2, 0])

    def test_2_the_whole_row_is_never_too_narrow(self):
        for nx in range(1, 8):
            whole = 2 ** nx - 1
            found = ask(bench(nx, 2, widths=(7, 7, 7)), check([whole, whole]), check([0, 0]), check([0, whole]))
            self.assertEqual(found[1:], [[0, 1, 0]] * 3)

    def test_3_a_neck_to_the_row_before(self):
        # Ore 0 to 2 below ore 1 to 4 has two in common, waste has none: row 0 has 3, 4 and row 1 has 0.
        laid = bench(5, 3, widths=(1, 1, 2))
        self.assertEqual(ask_last(laid, check([7, 30, 30])), [0, 0, 3, 2])
        self.assertEqual(ask_last(laid, check([7, 30, 31])), [0, 1, 0])
        self.assertEqual(ask_last(laid, check([7, 28, 31])), [0, 0, 3, 1])

    def test_3_as_wide_as_the_necks_and_one_narrower(self):
        lines = check([15, 60])
        found = ask(bench(6, 2), widths(1, 1, 2), lines, widths(1, 1, 3), lines)
        self.assertEqual(found[2::2], [[0, 1, 0], [0, 0, 3, 1]])

    def test_3_necks_of_waste_too(self):
        lines = check([48, 3])
        found = ask(bench(6, 2), widths(1, 1, 2), lines, widths(1, 1, 3), lines)
        self.assertEqual(found[2::2], [[0, 1, 0], [0, 0, 3, 1]])

    def test_3_one_neck_of_several_is_too_narrow(self):
        laid = bench(7, 2, widths=(1, 1, 2))
        self.assertEqual(ask_last(laid, check([0b1110011, 0b1111111])), [0, 1, 0])
        self.assertEqual(ask_last(laid, check([0b1000011, 0b1111111])), [0, 0, 3, 1])

    def test_3_nothing_in_common_is_no_neck(self):
        self.assertEqual(ask_last(bench(4, 2, widths=(1, 1, 7)), check([5, 10])), [0, 1, 0])

    def test_3_all_of_the_row_in_common_is_wide_enough(self):
        laid = bench(4, 2, widths=(1, 1, 7))
        found = ask(laid, check([15, 15]), check([0, 0]), check([7, 15]), check([7, 7]))
        self.assertEqual(found[1:], [[0, 1, 0], [0, 1, 0], [0, 0, 3, 1], [0, 0, 3, 1]])

    def test_3_is_told_of_the_later_row_and_never_of_row_0(self):
        self.assertEqual(ask_last(bench(3, 3, widths=(1, 1, 3)), check([1, 3, 7])), [0, 0, 3, 1])
        self.assertEqual(ask_last(bench(3, 1, widths=(1, 1, 3)), check([1])), [0, 1, 0])

    def test_4_otherwise_than_told_beforehand(self):
        told_ore = ask(bench(3, 2), fix(1, 1, 1), check([0, 0]), check([0, 2]), check([0, 5]))
        self.assertEqual(told_ore[2:], [[0, 0, 4, 1], [0, 1, 0], [0, 0, 4, 1]])
        told_waste = ask(bench(3, 2), fix(2, 0, 2), check([4, 0]), check([3, 4]), check([7, 7]))
        self.assertEqual(told_waste[2:], [[0, 0, 4, 0], [0, 1, 0], [0, 0, 4, 0]])

    def test_4_no_longer_told(self):
        self.assertEqual(ask_last(bench(1, 1), fix(0, 0, 1), fix(0, 0, 0), check([0])), [0, 1, 0])


class FirstFaultTest(unittest.TestCase):
    def setUp(self):
        # Row 1's last cell goes as ore; a run of one cell is too narrow, and so is a neck of two.
        self.laid = [bench(6, 3, widths=(2, 2, 3)), fix(5, 1, 1)]

    def ask_check(self, *lines):
        return ask_last(*self.laid, check(lines))

    def test_within_a_row_1_comes_first(self):
        self.assertEqual(self.ask_check(15, 64, 0), [0, 0, 1, 1])

    def test_within_a_row_2_comes_ahead_of_3_and_4(self):
        self.assertEqual(self.ask_check(15, 1, 0), [0, 0, 2, 1])

    def test_within_a_row_3_comes_ahead_of_4(self):
        self.assertEqual(self.ask_check(15, 3, 0), [0, 0, 3, 1])

    def test_4_where_nothing_else_is_wrong(self):
        self.assertEqual(self.ask_check(63, 15, 0), [0, 0, 4, 1])
        self.assertEqual(self.ask_check(7, 7, 0), [0, 0, 4, 1])

    def test_an_earlier_row_comes_ahead_of_a_lesser_kind(self):
        self.assertEqual(self.ask_check(7, 7, 64), [0, 0, 4, 1])
        self.assertEqual(self.ask_check(15, 3, 64), [0, 0, 3, 1])
        self.assertEqual(self.ask_check(1, 64, 64), [0, 0, 2, 0])

    def test_a_row_before_a_number_too_great_is_looked_at_first(self):
        self.assertEqual(self.ask_check(64, 63, 63), [0, 0, 1, 0])
        self.assertEqual(self.ask_check(63, 63, 64), [0, 0, 1, 2])


if __name__ == "__main__":
    unittest.main()
