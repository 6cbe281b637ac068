"""fill: rounds of corners read into lines, and numbers that are no rounds."""

import random
import unittest

from tests.helper import Plain, ask, ask_each, ask_last, bench, fill, fix, outlines, rows, widths


def numbers_of(*rounds):
    """The numbers that tell these rounds of corners."""
    return [number for corners in rounds for number in [len(corners)] + [place for at in corners for place in at]]


def box(left, top, right, bottom):
    return [(left, top), (right, top), (right, bottom), (left, bottom)]


def ask_fill(nx, ny, *rounds):
    return ask_last(bench(nx, ny), fill(numbers_of(*rounds)))


def bare(nx, ny):
    return Plain(nx, ny, 1, 0, 0, (1, 1, 1), [0] * (nx * ny), [0] * (nx * ny))


def drawn_round(source, nx, ny, turns):
    """A closed round of 2 * turns corners of the bench, which may go over itself."""
    while True:
        xs = [source.randint(0, nx) for _ in range(turns)]
        ys = [source.randint(0, ny) for _ in range(turns)]
        if all(xs[k] != xs[k - 1] and ys[k] != ys[k - 1] for k in range(turns)):
            break
    corners = []
    for k in range(turns):
        corners += [(xs[k - 1], ys[k]), (xs[k], ys[k])]
    shift = source.randrange(len(corners))
    corners = corners[shift:] + corners[:shift]
    return corners if source.random() < 0.5 else corners[::-1]


L_SHAPE = [(0, 0), (2, 0), (2, 1), (1, 1), (1, 2), (0, 2)]


class RoundsTest(unittest.TestCase):
    def test_no_numbers(self):
        for nx, ny in ((1, 1), (7, 8), (3, 2)):
            self.assertEqual(ask_last(bench(nx, ny), fill([])), [0] + [0] * ny)

    def test_one_box(self):
        self.assertEqual(ask_last(bench(3, 3), fill([4, 1, 1, 2, 1, 2, 2, 1, 2])), [0, 0, 2, 0])
        self.assertEqual(ask_fill(5, 4, box(1, 0, 4, 2)), [0, 14, 14, 0, 0])

    def test_either_way_round_and_from_each_corner(self):
        for shift in range(4):
            corners = box(1, 1, 3, 2)[shift:] + box(1, 1, 3, 2)[:shift]
            self.assertEqual(ask_fill(4, 3, corners), [0, 0, 6, 0])
            self.assertEqual(ask_fill(4, 3, corners[::-1]), [0, 0, 6, 0])

    def test_the_border_of_the_bench(self):
        for nx, ny in ((1, 1), (7, 1), (1, 8), (7, 8)):
            self.assertEqual(ask_fill(nx, ny, box(0, 0, nx, ny)), [0] + [2 ** nx - 1] * ny)

    def test_a_round_inside_another_is_a_hole(self):
        self.assertEqual(ask_fill(3, 3, box(0, 0, 3, 3), box(1, 1, 2, 2)), [0, 7, 5, 7])
        self.assertEqual(ask_fill(3, 3, box(1, 1, 2, 2), box(0, 0, 3, 3)), [0, 7, 5, 7])

    def test_rounds_that_overlap(self):
        self.assertEqual(ask_fill(3, 1, box(0, 0, 2, 1), box(1, 0, 3, 1)), [0, 5])
        self.assertEqual(ask_fill(3, 3, box(0, 0, 2, 2), box(1, 1, 3, 3)), [0] + rows("##.", "#.#", ".##"))
        self.assertEqual(ask_fill(2, 2, box(0, 0, 2, 2), box(0, 0, 2, 2)), [0, 0, 0])
        self.assertEqual(ask_fill(2, 2, *[box(0, 0, 2, 2)] * 3), [0, 3, 3])

    def test_a_round_that_goes_over_itself(self):
        twice = box(0, 0, 2, 2) * 2
        self.assertEqual(ask_fill(2, 2, twice), [0, 0, 0])
        self.assertEqual(ask_fill(2, 2, twice + box(0, 0, 2, 2)), [0, 3, 3])
        there_and_back = [(0, 0), (2, 0), (2, 2), (2, 0)]
        self.assertEqual(ask_fill(2, 2, there_and_back), [-6])
        self.assertEqual(ask_fill(2, 2, [(0, 0), (2, 0), (2, 2), (2, 0), (2, 2), (0, 2)]), [-6])

    def test_a_round_that_goes_over_a_part_of_itself(self):
        # Row 0 has two upright stretches at x = 0 and two at x = 1, row 1 has one at each.
        self.assertEqual(ask_fill(2, 2, [(0, 0), (1, 0), (1, 1), (0, 1), (0, 0), (1, 0), (1, 2), (0, 2)]), [0, 0, 1])

    def test_six_corners(self):
        self.assertEqual(ask_fill(2, 2, L_SHAPE), [0, 3, 1])

    def test_what_is_told_of_the_bench_does_not_matter(self):
        laid = [bench(3, 1), widths(7, 7, 7), fix(0, 0, 2)]
        self.assertEqual(ask_last(*laid, fill(numbers_of(box(0, 0, 1, 1)))), [0, 1])

    def test_drawn_rounds(self):
        source = random.Random(71)
        for _ in range(40):
            nx, ny = source.randint(1, 7), source.randint(1, 8)
            each = []
            for _ in range(10):
                rounds = [drawn_round(source, nx, ny, source.choice((2, 2, 4, 6))) for _ in range(source.randint(0, 6))]
                each.append(numbers_of(*rounds))
            plain = bare(nx, ny)
            found = ask_each(plain.calls(), [fill(numbers) for numbers in each])
            self.assertEqual(found, [plain.fill(numbers) for numbers in each])
            self.assertEqual({answer[0] for answer in found}, {0})

    def test_five_hundred_numbers(self):
        source = random.Random(72)
        for _ in range(5):
            rounds = [drawn_round(source, 7, 8, 2) for _ in range(44)] + [L_SHAPE] * 8
            source.shuffle(rounds)
            numbers = numbers_of(*rounds)
            self.assertEqual(len(numbers), 500)
            self.assertEqual(ask_last(bench(7, 8), fill(numbers)), bare(7, 8).fill(numbers))
            self.assertEqual(ask_last(bench(7, 8), fill(numbers))[0], 0)

    def test_the_longest_round(self):
        numbers = numbers_of(box(0, 0, 7, 8) * 62)
        self.assertEqual(len(numbers), 497)
        self.assertEqual(ask_last(bench(7, 8), fill(numbers)), [0] + [0] * 8)
        self.assertEqual(ask_last(bench(7, 8), fill(numbers_of(box(0, 0, 7, 8) * 61))), [0] + [127] * 8)

    def test_changes_nothing_and_reads_outlines(self):
        found = ask(bench(3, 3), outlines([7, 5, 7]), fill(numbers_of(box(0, 0, 3, 3))), outlines([7, 5, 7]))
        self.assertEqual(found[1], found[3])


class NotRoundsTest(unittest.TestCase):
    """-5."""

    def hold(self, numbers, nx=3, ny=3):
        self.assertEqual(ask_last(bench(nx, ny), fill(numbers)), [-5], numbers)

    def test_fewer_than_four_corners(self):
        self.hold([0])
        self.hold([1, 0, 0])
        self.hold([2, 0, 0, 1, 0])
        self.hold([3, 0, 0, 1, 0, 1, 1])
        self.assertEqual(ask_last(bench(3, 3), fill([4, 0, 0, 1, 0, 1, 1, 0, 1])), [0, 1, 0, 0])

    def test_too_few_numbers(self):
        whole = numbers_of(box(0, 0, 1, 1))
        for length in range(1, len(whole)):
            self.hold(whole[:length])
        self.hold([500])
        self.hold([5] + whole[1:])

    def test_too_many_numbers(self):
        whole = numbers_of(box(0, 0, 1, 1))
        self.hold(whole + [0])
        self.hold(whole + [1])
        self.hold(whole + [0, 0])
        self.hold(whole + [4])
        self.hold(whole + whole[:-1])
        self.hold(whole + [3, 0, 0, 1, 0, 1, 1])
        self.hold(whole + [0] + whole)

    def test_five_hundred_numbers(self):
        self.hold([0] * 500, 7, 8)
        self.hold([500] * 500, 7, 8)
        self.hold(numbers_of(box(0, 0, 7, 8) * 62) + [0] * 3, 7, 8)
        # Of 250 corners there would be 501 numbers.
        self.hold([250] + [0, 0] * 249 + [0], 7, 8)

    def test_ahead_of_6(self):
        odd = [(0, 0), (1, 0), (1, 1), (2, 1), (0, 1)]
        beyond = box(0, 0, 4, 4)
        alike = [(0, 0), (0, 0), (1, 1), (0, 1)]
        for corners in (odd, beyond, alike):
            self.assertEqual(ask_fill(3, 3, corners), [-6])
            self.hold(numbers_of(corners) + [0])
            self.hold(numbers_of(corners) + [3, 0, 0, 1, 0, 1, 1])
            self.hold(numbers_of(corners)[:-1])
            self.hold([3, 0, 0, 1, 0, 1, 1] + numbers_of(corners))


class WrongRoundTest(unittest.TestCase):
    """-6."""

    def hold(self, *corners):
        corners = list(corners)
        good = box(0, 0, 3, 3)
        self.assertEqual(ask_fill(3, 3, corners), [-6], corners)
        self.assertEqual(ask_fill(3, 3, good, corners), [-6], corners)
        self.assertEqual(ask_fill(3, 3, corners, good), [-6], corners)
        for shift in range(len(corners)):
            self.assertEqual(ask_fill(3, 3, corners[shift:] + corners[:shift]), [-6], corners)

    def test_an_odd_number_of_corners(self):
        self.hold((0, 0), (2, 0), (2, 2), (0, 2), (0, 1))
        self.hold((0, 0), (1, 0), (2, 0), (2, 2), (0, 2))
        self.hold((0, 0), (1, 0), (1, 1), (2, 1), (2, 2), (0, 2), (0, 1))

    def test_two_corners_alike(self):
        self.hold((0, 0), (0, 0), (1, 0), (1, 1), (0, 1), (0, 1))
        self.hold((0, 0), (1, 0), (1, 0), (0, 0))
        self.hold((1, 1), (1, 1), (1, 1), (1, 1))

    def test_the_last_corner_like_the_first(self):
        self.hold((0, 0), (1, 0), (1, 1), (0, 1), (0, 1), (0, 0))

    def test_corners_that_differ_in_both_places(self):
        self.hold((0, 0), (1, 0), (2, 1), (0, 1))
        self.hold((0, 0), (1, 1), (2, 0), (1, 2))
        self.hold((0, 0), (2, 0), (2, 2), (1, 1))

    def test_the_last_and_the_first_differ_in_both_places(self):
        self.hold((0, 0), (1, 0), (1, 1), (2, 1))

    def test_not_by_turns(self):
        self.hold((0, 0), (1, 0), (2, 0), (2, 1), (0, 1), (0, 0))
        self.hold((0, 0), (1, 0), (2, 0), (2, 1), (1, 1), (0, 1))
        self.hold((0, 0), (1, 0), (2, 0), (3, 0))
        self.hold((0, 0), (0, 1), (0, 2), (0, 1))

    def test_not_by_turns_from_the_last_corner_to_the_first(self):
        self.hold((1, 0), (2, 0), (2, 1), (0, 1), (0, 0), (3, 0))
        self.hold((0, 1), (0, 0), (1, 0), (1, 3), (0, 3), (0, 2))

    def test_a_corner_beyond_the_border(self):
        self.hold(*box(0, 0, 4, 3))
        self.hold(*box(0, 0, 3, 4))
        self.hold(*box(2, 2, 500, 3))
        self.hold(*box(4, 4, 5, 5))
        self.assertEqual(ask_fill(3, 3, box(0, 0, 3, 3)), [0, 7, 7, 7])
        self.assertEqual(ask_fill(3, 3, box(2, 2, 3, 3)), [0, 0, 0, 4])

    def test_the_border_is_that_of_the_bench(self):
        for nx in (1, 7):
            for ny in (1, 8):
                self.assertEqual(ask_fill(nx, ny, box(0, 0, nx, ny))[0], 0)
                self.assertEqual(ask_fill(nx, ny, box(0, 0, nx + 1, ny)), [-6])
                self.assertEqual(ask_fill(nx, ny, box(0, 0, nx, ny + 1)), [-6])

    def test_numbers_that_are_nearly_rounds(self):
        source = random.Random(73)
        seen = {}
        plain = bare(4, 4)
        each = []
        for _ in range(2000):
            rounds = [drawn_round(source, 4, 4, source.choice((2, 2, 4))) for _ in range(source.randint(1, 3))]
            numbers = numbers_of(*rounds)
            for _ in range(source.randint(0, 2)):
                at = source.randrange(len(numbers))
                numbers[at] = max(0, numbers[at] + source.choice((-1, 1)))
            each.append(numbers[:source.choice((len(numbers),) * 9 + (len(numbers) - 1,))])
        found = ask_each(plain.calls(), [fill(numbers) for numbers in each])
        for numbers, answer in zip(each, found):
            self.assertEqual(answer, plain.fill(numbers), numbers)
            seen[answer[0]] = seen.get(answer[0], 0) + 1
        self.assertEqual(sorted(seen), [-6, -5, 0])
        self.assertGreater(min(seen.values()), 100)


if __name__ == "__main__":
    unittest.main()
