"""How the function takes its list and gives its answers, whatever the calls are."""

import contextlib
import io
import pathlib
import random
import re
import unittest

from orelines.bench import answers
from tests.helper import ask, bench, best, cell, change, check, fix, price, table, widths


class WatchedList(list):
    """A list that tells when anything is about to change it, for a while too."""

    def refuse(self, *arguments):
        raise AssertionError("what is handed in was changed")

    append = extend = insert = remove = pop = clear = sort = reverse = refuse
    __setitem__ = __delitem__ = __iadd__ = __imul__ = refuse


def many_calls():
    laid = bench(3, 3, 4, 1, 1, (2, 1, 2), range(9), range(9, 0, -1))
    calls = [cell(0, 0), laid, best(), fix(1, 1, 2), change(0, 0, 5, 5), widths(1, 1, 3), price(3), best(), table(1),
             check([0, 7, 7]), check([0, 5, 0]), check([0]), laid, cell(1, 1), price(8), widths(4, 4, 4)]
    return [number for call in calls for number in call]


class InterfaceTest(unittest.TestCase):
    def test_what_is_handed_in_is_the_same_afterwards(self):
        calls = many_calls()
        answers(calls)
        self.assertEqual(calls, many_calls())

    def test_what_is_handed_in_is_not_changed_for_a_while_either(self):
        self.assertEqual(answers(WatchedList(many_calls())), answers(many_calls()))

    def test_the_answers_are_a_list_of_whole_numbers(self):
        found = answers(many_calls())
        self.assertIs(type(found), list)
        self.assertEqual({type(number) for number in found}, {int})

    def test_twice_the_same(self):
        calls = many_calls()
        first = answers(calls)
        self.assertEqual(answers(calls), first)
        self.assertEqual(answers(list(calls)), first)

    def test_nothing_is_kept_from_one_time_to_the_next(self):
        answers(many_calls())
        self.assertEqual(answers(best()), [1, -8])
        answers(bench(1, 1, 5, 5, 5, (5, 5, 5), [5], [5]) + fix(0, 0, 1))
        self.assertEqual(ask(bench(1, 1), cell(0, 0), price(1), widths(1, 1, 1)),
                         [[0], [0, 0, 0, 0, 0, 0, 0], [0, 1], [0, 1, 1, 1]])

    def test_an_answer_that_is_changed_does_not_reach_the_next(self):
        calls = many_calls()
        first = answers(calls)
        kept = list(first)
        first.clear()
        self.assertEqual(answers(calls), kept)

    def test_the_answers_of_a_beginning_are_the_beginning_of_the_answers(self):
        whole = answers(many_calls() + many_calls())
        half = answers(many_calls())
        self.assertEqual(whole[:len(half)], half)

    def test_lists_of_five_hundred_are_read_to_their_end(self):
        source = random.Random(21)
        long_lines = check([source.randrange(10) for _ in range(500)])
        long_bench = bench(3, 1, widths=[1] * 500, kilograms=[1] * 500, metal=[1] * 500)
        found = ask(long_lines, long_bench, bench(1, 1), long_lines, long_bench, cell(0, 0))
        self.assertEqual(found, [[-1], [-1], [0], [-1], [-1], [0] * 7])

    def test_the_readme_example(self):
        text = (pathlib.Path(__file__).resolve().parent.parent / "README.md").read_text(encoding="utf-8")
        code = re.search(r"```python\n(.*?)```", text, re.DOTALL).group(1)
        printed = io.StringIO()
        with contextlib.redirect_stdout(printed):
            exec(code, {})
        self.assertIn("# " + printed.getvalue().strip(), code)


if __name__ == "__main__":
    unittest.main()
