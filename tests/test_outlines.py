"""outlines: sides, rounds and corners in their order; and that fill reads them back."""

import itertools
import random
import unittest

from tests.helper import Plain, ask, ask_each, ask_last, bench, fill, fix, outlines, rows, widths


def rounds_in(answer):
    """Each round as its corners."""
    found = []
    at = 1
    while at < len(answer):
        places = answer[at + 1:at + 1 + 2 * answer[at]]
        found.append(list(zip(places[0::2], places[1::2])))
        at += 1 + 2 * answer[at]
    return found


def ask_rounds(*texts):
    return rounds_in(ask_last(bench(len(texts[0]), len(texts)), outlines(rows(*texts))))


def bare(nx, ny):
    return Plain(nx, ny, 1, 0, 0, (1, 1, 1), [0] * (nx * ny), [0] * (nx * ny))


class NumbersTest(unittest.TestCase):
    def test_one_cell(self):
        self.assertEqual(ask_last(bench(1, 1), outlines([1])), [0, 4, 0, 0, 1, 0, 1, 1, 0, 1])
        self.assertEqual(ask_last(bench(3, 3), outlines([0, 2, 0])), [0, 4, 1, 1, 2, 1, 2, 2, 1, 2])

    def test_whole_bench(self):
        for nx, ny in ((1, 1), (7, 1), (1, 8), (7, 8), (3, 2)):
            found = ask_last(bench(nx, ny), outlines([2 ** nx - 1] * ny))
            self.assertEqual(found, [0, 4, 0, 0, nx, 0, nx, ny, 0, ny])

    def test_no_ore_at_all(self):
        for nx, ny in ((1, 1), (7, 1), (1, 8), (7, 8)):
            self.assertEqual(ask_last(bench(nx, ny), outlines([0] * ny)), [0])

    def test_a_hole_is_a_second_round(self):
        found = ask_last(bench(3, 3), outlines([7, 5, 7]))
        self.assertEqual(found, [0, 4, 0, 0, 3, 0, 3, 3, 0, 3, 4, 1, 1, 1, 2, 2, 2, 2, 1])

    def test_the_last_cell_of_the_greatest_bench(self):
        self.assertEqual(ask_last(bench(7, 8), outlines([0] * 7 + [64])), [0, 4, 6, 7, 7, 7, 7, 8, 6, 8])


class TurnsTest(unittest.TestCase):
    def test_a_turn_to_the_left(self):
        self.assertEqual(ask_rounds("#.", "##"), [[(0, 0), (1, 0), (1, 1), (2, 1), (2, 2), (0, 2)]])
        self.assertEqual(ask_rounds(".#", "##"), [[(1, 0), (2, 0), (2, 2), (0, 2), (0, 1), (1, 1)]])
        self.assertEqual(ask_rounds("##", "#."), [[(0, 0), (2, 0), (2, 1), (1, 1), (1, 2), (0, 2)]])
        self.assertEqual(ask_rounds("##", ".#"), [[(0, 0), (2, 0), (2, 2), (1, 2), (1, 1), (0, 1)]])

    def test_straight_on_is_no_corner(self):
        self.assertEqual(ask_rounds("####"), [[(0, 0), (4, 0), (4, 1), (0, 1)]])
        self.assertEqual(ask_rounds("#.", "#.", "#."), [[(0, 0), (1, 0), (1, 3), (0, 3)]])

    def test_two_cells_that_touch_at_a_corner_turn_to_the_right_there(self):
        self.assertEqual(ask_rounds("#.", ".#"), [[(0, 0), (1, 0), (1, 1), (0, 1)], [(1, 1), (2, 1), (2, 2), (1, 2)]])
        self.assertEqual(ask_rounds(".#", "#."), [[(1, 0), (2, 0), (2, 1), (1, 1)], [(0, 1), (1, 1), (1, 2), (0, 2)]])

    def test_one_piece_that_touches_itself_at_a_corner(self):
        self.assertEqual(ask_rounds("###", "#.#", "##."), [
            [(0, 0), (3, 0), (3, 2), (2, 2), (2, 1), (1, 1), (1, 2), (2, 2), (2, 3), (0, 3)]])
        self.assertEqual(ask_rounds("###", "#.#", ".##"), [
            [(0, 0), (3, 0), (3, 3), (1, 3), (1, 2), (2, 2), (2, 1), (1, 1), (1, 2), (0, 2)]])

    def test_two_holes_that_touch_at_a_corner_are_one_round(self):
        self.assertEqual(ask_rounds("####", "#.##", "##.#", "####")[1:], [
            [(1, 1), (1, 2), (2, 2), (2, 3), (3, 3), (3, 2), (2, 2), (2, 1)]])
        self.assertEqual(ask_rounds("####", "##.#", "#.##", "####")[1:], [
            [(2, 1), (2, 2), (1, 2), (1, 3), (2, 3), (2, 2), (3, 2), (3, 1)]])


class OrderTest(unittest.TestCase):
    def firsts(self, *texts):
        return [corners[0] for corners in ask_rounds(*texts)]

    def test_rounds_that_begin_in_the_same_row(self):
        self.assertEqual(ask_rounds("#.#"), [[(0, 0), (1, 0), (1, 1), (0, 1)], [(2, 0), (3, 0), (3, 1), (2, 1)]])
        self.assertEqual(self.firsts("#.#.#.#"), [(0, 0), (2, 0), (4, 0), (6, 0)])

    def test_a_row_comes_ahead_of_a_place_in_it(self):
        self.assertEqual(self.firsts("...#", "#...", "..#."), [(3, 0), (0, 1), (2, 2)])

    def test_holes_stand_among_other_rounds(self):
        self.assertEqual(self.firsts("###..", "#.#.#", "###..", "....#"), [(0, 0), (1, 1), (4, 1), (4, 3)])
        self.assertEqual(self.firsts(".####", ".#.##", "#####", "#.#.#", "#####"), [(1, 0), (2, 1), (1, 3), (3, 3)])

    def test_a_piece_inside_a_hole(self):
        self.assertEqual(ask_rounds("#####", "#...#", "#.#.#", "#...#", "#####"), [
            [(0, 0), (5, 0), (5, 5), (0, 5)], [(1, 1), (1, 4), (4, 4), (4, 1)], [(2, 2), (3, 2), (3, 3), (2, 3)]])

    def test_a_round_may_begin_at_a_corner_of_one_before_it(self):
        self.assertEqual(ask_rounds("#..", ".##")[1], [(1, 1), (3, 1), (3, 2), (1, 2)])

    def test_holes_begin_with_their_upper_left_corner_and_go_down(self):
        self.assertEqual(ask_rounds("#####", "#.#.#", "#####")[1:], [
            [(1, 1), (1, 2), (2, 2), (2, 1)], [(3, 1), (3, 2), (4, 2), (4, 1)]])

    def test_a_round_begins_with_its_upper_left_corner(self):
        source = random.Random(61)
        for _ in range(200):
            nx, ny = source.randint(1, 7), source.randint(1, 8)
            found = rounds_in(ask_last(bench(nx, ny), outlines([source.randrange(2 ** nx) for _ in range(ny)])))
            for corners in found:
                self.assertEqual(corners[0], min(corners, key=lambda corner: (corner[1], corner[0])))


class AllLinesTest(unittest.TestCase):
    def hold(self, nx, ny, each):
        """Each outline by the plain words, and read back by fill (promise 3)."""
        plain = bare(nx, ny)
        told = ask_each(plain.calls(), [outlines(lines) for lines in each])
        back = ask_each(plain.calls(), [fill(answer[1:]) for answer in told])
        for lines, answer, again in zip(each, told, back):
            self.assertEqual(answer, plain.outlines(lines), lines)
            self.assertEqual(again, [0] + list(lines), lines)

    def test_all_lines_of_small_benches(self):
        for nx, ny in ((1, 1), (1, 8), (7, 1), (2, 2), (2, 4), (4, 2), (3, 3)):
            self.hold(nx, ny, list(itertools.product(range(2 ** nx), repeat=ny)))

    def test_all_lines_of_four_by_three(self):
        self.hold(4, 3, list(itertools.product(range(16), repeat=3)))

    def test_many_lines_of_greater_benches(self):
        source = random.Random(62)
        for nx, ny in ((7, 8), (7, 7), (6, 8), (5, 6), (4, 8), (7, 3), (2, 8)):
            for share in (0.2, 0.5, 0.8):
                each = [[sum(2 ** x for x in range(nx) if source.random() < share) for _ in range(ny)]
                        for _ in range(60)]
                self.hold(nx, ny, each)

    def test_chessboards(self):
        self.hold(7, 8, [[0b1010101, 0b0101010] * 4, [0b0101010, 0b1010101] * 4])

    def test_wide_runs(self):
        source = random.Random(63)
        stretches = [2 ** last - 2 ** first for first in range(8) for last in range(first, 8)]
        self.hold(7, 8, [[source.choice(stretches) for _ in range(8)] for _ in range(200)])


class NotAskedTest(unittest.TestCase):
    def test_whether_they_may_be_drawn(self):
        found = ask(bench(3, 1), outlines([5]), widths(7, 7, 7), fix(0, 0, 2), fix(1, 0, 1), outlines([5]))
        self.assertEqual(found[5], found[1])


if __name__ == "__main__":
    unittest.main()
