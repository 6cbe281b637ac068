"""pieces: what hangs together, in which order, and with how much."""

import itertools
import random
import unittest

from tests.helper import Plain, ask, ask_each, ask_last, bench, drawn, fix, pieces, rows, widths


def laid_plain(nx, ny):
    """Each cell with kilograms and metal of its own, so that no sum is come by in two ways."""
    return Plain(nx, ny, 1, 1, 1, (1, 1, 1), [2 ** at for at in range(nx * ny)], [3 ** at for at in range(nx * ny)])


def shapes(answer):
    """Of each piece its first cell and how many cells it has."""
    return [tuple(answer[at:at + 3]) for at in range(1, len(answer), 5)]


def ask_shapes(*texts):
    return shapes(ask_last(bench(len(texts[0]), len(texts)), pieces(rows(*texts))))


class PiecesTest(unittest.TestCase):
    def test_numbers(self):
        laid = bench(3, 2, kilograms=[1, 2, 4, 8, 16, 32], metal=[100, 200, 300, 400, 500, 600])
        found = ask(laid, pieces([1, 1]), pieces([5, 4]), pieces([7, 7]), pieces([2, 5]))
        self.assertEqual(found[1:], [
            [0, 0, 0, 2, 9, 500],
            [0, 0, 0, 1, 1, 100, 2, 0, 2, 36, 900],
            [0, 0, 0, 6, 63, 2100],
            [0, 1, 0, 1, 2, 200, 0, 1, 1, 8, 400, 2, 1, 1, 32, 600],
        ])

    def test_no_ore_at_all(self):
        for nx, ny in ((1, 1), (7, 8), (3, 2)):
            self.assertEqual(ask_last(bench(nx, ny), pieces([0] * ny)), [0])

    def test_one_cell_and_the_whole_bench(self):
        for nx, ny in ((1, 1), (7, 1), (1, 8), (7, 8)):
            laid = bench(nx, ny, kilograms=[1000000000] * (nx * ny), metal=[1] * (nx * ny))
            found = ask(laid, pieces([2 ** nx - 1] * ny), pieces([0] * (ny - 1) + [2 ** (nx - 1)]))
            self.assertEqual(found[1], [0, 0, 0, nx * ny, 1000000000 * nx * ny, nx * ny])
            self.assertEqual(found[2], [0, nx - 1, ny - 1, 1, 1000000000, 1])

    def test_touching_at_a_corner_only_are_two(self):
        self.assertEqual(ask_shapes("#.", ".#"), [(0, 0, 1), (1, 1, 1)])
        self.assertEqual(ask_shapes(".#", "#."), [(1, 0, 1), (0, 1, 1)])

    def test_a_row_end_does_not_touch_the_next_row_begin(self):
        self.assertEqual(ask_shapes("..#", "#.."), [(2, 0, 1), (0, 1, 1)])

    def test_with_a_hole(self):
        self.assertEqual(ask_shapes("###", "#.#", "###"), [(0, 0, 8)])

    def test_inside_a_hole(self):
        self.assertEqual(ask_shapes("#####", "#...#", "#.#.#", "#...#", "#####"), [(0, 0, 16), (2, 2, 1)])

    def test_the_first_cell_is_of_the_least_y_then_of_the_least_x(self):
        self.assertEqual(ask_shapes("..#", "###"), [(2, 0, 4)])
        self.assertEqual(ask_shapes(".#.#", ".###", "##.."), [(1, 0, 7)])

    def test_the_order_is_that_of_first_cells(self):
        self.assertEqual(ask_shapes("....#", "##.##"), [(4, 0, 3), (0, 1, 2)])
        self.assertEqual(ask_shapes("#.#.#"), [(0, 0, 1), (2, 0, 1), (4, 0, 1)])
        self.assertEqual(ask_shapes("..#", "#.#", "..#", "#.."), [(2, 0, 3), (0, 1, 1), (0, 3, 1)])

    def test_arms_that_meet_rows_later(self):
        self.assertEqual(ask_shapes("#.#.#", "#.#.#", "#.###", "#....", "####."), [(0, 0, 8), (2, 0, 7)])
        self.assertEqual(ask_shapes("#.#", "#.#", "###"), [(0, 0, 7)])

    def test_a_winding_piece(self):
        self.assertEqual(ask_shapes("#######", "......#", "#####.#", "#...#.#", "#.###.#", "#.....#", "#######"),
                         [(0, 0, 31)])

    def test_chessboard(self):
        found = ask_last(bench(7, 8), pieces([0b1010101, 0b0101010] * 4))
        self.assertEqual(len(found), 1 + 5 * 28)
        self.assertEqual(found[3::5], [1] * 28)

    def test_whether_they_may_be_drawn_is_not_asked(self):
        laid = [bench(3, 1, widths=(1, 1, 1)), widths(7, 7, 7), fix(0, 0, 2), fix(1, 0, 1)]
        self.assertEqual(ask_last(*laid, pieces([5])), [0, 0, 0, 1, 0, 0, 2, 0, 1, 0, 0])

    def test_all_lines_of_small_benches(self):
        for nx, ny in ((1, 1), (1, 5), (5, 1), (2, 3), (3, 3)):
            plain = laid_plain(nx, ny)
            each = list(itertools.product(range(2 ** nx), repeat=ny))
            found = ask_each(plain.calls(), [pieces(lines) for lines in each])
            for lines, answer in zip(each, found):
                self.assertEqual(answer, plain.pieces(lines), lines)

    def test_many_lines_of_greater_benches(self):
        source = random.Random(51)
        for _ in range(30):
            plain = drawn(source, source.randint(4, 7), source.randint(4, 8), spread=1000)
            each = [[source.randrange(2 ** plain.nx) | source.randrange(2 ** plain.nx) for _ in range(plain.ny)]
                    for _ in range(10)]
            found = ask_each(plain.calls(), [pieces(lines) for lines in each])
            self.assertEqual(found, [plain.pieces(lines) for lines in each])


if __name__ == "__main__":
    unittest.main()
