"""The interface: how calls and answers stand in their lists, and what is kept."""

import inspect
import sys
import unittest

from cellpad.notebook import answers

from helper import BEGIN, CANCEL, END, HUGE, ask, drop, hide, join, move, new, replace, split, swap, write


EVERY_CALL = [
    new(0, [1, 2, 3]), new(1, []), write(2, [3, 4]), move(2, 0), hide(1, 1), split(1, 1), swap(1, 3), join(3),
    replace([2], [7, 7]), BEGIN, drop(3), END, BEGIN, new(0, [0, 255]), CANCEL, drop(9),
]
EVERY_ANSWER = [1, 2, 0, 0, 0, 3, 0, 1, 1, 0, 0, 1, 0, 4, 1, -1]


def flat(calls):
    return [number for call in calls for number in call]


class Form(unittest.TestCase):
    def test_each_answer_stands_behind_its_count(self):
        self.assertEqual(answers([0, 0, 2, 7, 8]), [1, 1])
        self.assertEqual(answers([0, 0, 0, 3, 1, 10]), [1, 1, 1, 0, 1, -12])

    def test_every_call(self):
        expected = flat([1, answer] for answer in EVERY_ANSWER)
        self.assertEqual(answers(flat(EVERY_CALL)), expected)

    def test_any_call_may_be_first(self):
        firsts = [
            (new(0, []), 1), (write(1, []), -1), (move(1, 0), -1), (drop(1), -1), (hide(1, 1), -1),
            (split(1, 0), -1), (join(1), -1), (swap(1, 1), -1), (replace([1], []), -7), (BEGIN, 0),
            (END, -12), (CANCEL, -12),
        ]
        for call, answer in firsts:
            self.assertEqual(answers(call), [1, answer], call)

    def test_answers_are_whole_numbers_in_a_list(self):
        given = answers(flat(EVERY_CALL))
        self.assertIs(type(given), list)
        self.assertEqual({type(number) for number in given}, {int})

    def test_rows_of_numbers_that_look_like_calls(self):
        self.assertEqual(ask(new(0, [3, 1, 3, 1]), replace([3, 1], [9, 10]), drop(1)), [1, 2, 0])

    def test_rows_of_400_are_read_whole(self):
        self.assertEqual(
            ask(new(0, [3] * 400), write(1, [HUGE] * 400), replace([3] * 400, [-HUGE] * 400), new(0, [])),
            [-5, -1, -4, 1],
        )

    def test_a_long_list_is_gone_through_by_a_loop(self):
        calls = [new(0, [])] + [write(1, [k % 256] * 82) for k in range(199)]
        self.assertLessEqual(len(flat(calls)), 17000)
        limit = sys.getrecursionlimit()
        sys.setrecursionlimit(len(inspect.stack()) + 60)
        try:
            given = ask(*calls)
        finally:
            sys.setrecursionlimit(limit)
        self.assertEqual(given, [1] + [0] * 199)


class NothingKept(unittest.TestCase):
    def test_what_is_handed_in_is_not_changed(self):
        calls = flat(EVERY_CALL)
        before = list(calls)
        answers(calls)
        self.assertEqual(calls, before)

    def test_what_is_handed_in_is_not_changed_for_a_while(self):
        class Watched(list):
            def refuse(self, *args, **kwargs):
                raise AssertionError("the list was changed")

            __setitem__ = __delitem__ = __iadd__ = __imul__ = refuse
            append = extend = insert = pop = remove = clear = sort = reverse = refuse

        given = answers(Watched(flat(EVERY_CALL)))
        self.assertEqual(given[1::2], EVERY_ANSWER)

    def test_a_second_time_answers_as_the_first_did(self):
        first = answers(flat(EVERY_CALL))
        second = answers(flat(EVERY_CALL))
        self.assertEqual(first, second)
        self.assertIsNot(first, second)

    def test_an_open_group_is_not_kept(self):
        self.assertEqual(ask(BEGIN, new(0, [])), [0, 1])
        self.assertEqual(ask(END), [-12])
        self.assertEqual(ask(new(0, [])), [1])

    def test_what_was_given_back_may_be_changed(self):
        first = answers(new(0, []))
        first.append(5)
        self.assertEqual(answers(new(0, [])), [1, 1])


if __name__ == "__main__":
    unittest.main()
