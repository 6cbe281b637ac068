"""How the function takes its list and gives its answers, whatever the calls are."""

import contextlib
import io
import pathlib
import random
import re
import unittest

from orelines.bench import answers
from tests.helper import (
    ask, bench, best, cell, change, check, count, fill, fix, forced, free, losses, outlines, pieces, price, runs, table,
    told, widths)


class WatchedList(list):
    """A list that tells when anything is about to change it, for a while too."""

    def refuse(self, *arguments):
        raise AssertionError("what is handed in was changed")

    append = extend = insert = remove = pop = clear = sort = reverse = refuse
    __setitem__ = __delitem__ = __iadd__ = __imul__ = refuse


def many_calls():
    laid = bench(3, 3, 4, 1, 1, (2, 1, 2), range(9), range(9, 0, -1))
    calls = [cell(0, 0), laid, best(), fix(1, 1, 2), change(0, 0, 5, 5), widths(1, 1, 3), price(3), best(), table(1),
             check([0, 7, 7]), check([0, 5, 0]), check([0]), count(), free(), losses([0, 7, 3]), pieces([5, 0, 7]),
             outlines([7, 5, 7]), fill([4, 0, 0, 3, 0, 3, 2, 0, 2]), fill([3]), fill([4] + [0] * 8), runs(5), runs(9),
             forced(1, 1, 1), forced(3, 0, 1), told(), laid, cell(1, 1), price(8), widths(4, 4, 4), told()]
    return [number for call in calls for number in call]


class InterfaceTest(unittest.TestCase):
    def test_what_is_handed_in_is_the_same_afterwards(self):
        calls = many_calls()
        answers(calls)
        self.assertEqual(calls, many_calls())

    def test_what_is_handed_in_is_not_changed_for_a_while_either(self):
        self.assertEqual(answers(WatchedList(many_calls())), answers(many_calls()))

    def test_the_answers_are_a_list_of_whole_numbers(self):
        found = answers(many_calls())
        self.assertIs(type(found), list)
        self.assertEqual({type(number) for number in found}, {int})

    def test_twice_the_same(self):
        calls = many_calls()
        first = answers(calls)
        self.assertEqual(answers(calls), first)
        self.assertEqual(answers(list(calls)), first)

    def test_nothing_is_kept_from_one_time_to_the_next(self):
        answers(many_calls())
        self.assertEqual(answers(best()), [1, -8])
        answers(bench(1, 1, 5, 5, 5, (5, 5, 5), [5], [5]) + fix(0, 0, 1))
        self.assertEqual(ask(bench(1, 1), cell(0, 0), price(1), widths(1, 1, 1)),
                         [[0], [0, 0, 0, 0, 0, 0, 0], [0, 1], [0, 1, 1, 1]])

    def test_an_answer_that_is_changed_does_not_reach_the_next(self):
        calls = many_calls()
        first = answers(calls)
        kept = list(first)
        first.clear()
        self.assertEqual(answers(calls), kept)

    def test_the_answers_of_a_beginning_are_the_beginning_of_the_answers(self):
        whole = answers(many_calls() + many_calls())
        half = answers(many_calls())
        self.assertEqual(whole[:len(half)], half)

    def test_lists_of_five_hundred_are_read_to_their_end(self):
        source = random.Random(21)
        long_lines = check([source.randrange(10) for _ in range(500)])
        long_bench = bench(3, 1, widths=[1] * 500, kilograms=[1] * 500, metal=[1] * 500)
        found = ask(long_lines, long_bench, bench(1, 1), long_lines, long_bench, cell(0, 0))
        self.assertEqual(found, [[-1], [-1], [0], [-1], [-1], [0] * 7])
        for build in (losses, pieces, outlines, fill):
            given = build([source.randrange(3) for _ in range(500)])
            refusal = [-5] if build == fill else [-1]
            self.assertEqual(ask(bench(1, 1), given, cell(0, 0), given, told())[1:4:2], [refusal] * 2)
            self.assertEqual(ask(bench(1, 1), given, cell(0, 0))[2], [0] * 7)

    def test_the_longest_list_of_calls(self):
        numbers = [4, 0, 0, 7, 0, 7, 8, 0, 8] * 55
        calls = [bench(7, 8)] + [fill(numbers)] * 31
        self.assertLessEqual(sum(len(call) for call in calls), 16000)
        self.assertEqual(ask(*calls)[1:], [[0] + [127] * 8] * 31)

    def test_four_hundred_calls_of_each_kind_that_takes_lines(self):
        board = [0b1010101, 0b0101010] * 4
        for build, length in ((losses, 8), (pieces, 1 + 28 * 5), (outlines, 1 + 28 * 9)):
            found = ask(bench(7, 8), *[build(board)] * 399)
            self.assertEqual(found[1:], [found[1]] * 399)
            self.assertEqual(len(found[1]), length)

    def test_twenty_searches_of_the_kinds_that_tell_one_number(self):
        found = ask(bench(7, 8), *[count()] * 10, *[forced(6, 7, 1)] * 10)
        self.assertEqual(found[1:], [[0, 2 ** 56]] * 10 + [[0, 0]] * 10)

    def test_the_readme_example(self):
        text = (pathlib.Path(__file__).resolve().parent.parent / "README.md").read_text(encoding="utf-8")
        code = re.search(r"```python\n(.*?)```", text, re.DOTALL).group(1)
        printed = io.StringIO()
        with contextlib.redirect_stdout(printed):
            exec(code, {})
        self.assertIn("# " + printed.getvalue().strip(), code)


if __name__ == "__main__":
    unittest.main()
