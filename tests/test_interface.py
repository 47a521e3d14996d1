"""The interface: how calls and answers stand in their lists, and what is kept."""

import inspect
import sys
import unittest

from cellpad.notebook import answers

from helper import BEGIN, CANCEL, END, HUGE, REDO, STATE, UNDO, WHOLE, ask, at, blame, changed, drop, find, flat, hide
from helper import join, move, new, replace, row_told, split, step, strike, swap, text, to, told, write

EVERY_CALL = [
    new(0, [1, 2, 3]), new(1, []), write(2, [3, 4]), move(2, 0), hide(1, 1), split(1, 1), swap(1, 3), join(3),
    replace([2], [7, 7]), BEGIN, drop(3), END, BEGIN, new(0, [0, 255]), CANCEL, drop(9), UNDO, REDO, to(2), to(10),
    strike(9), WHOLE, text(3), at(1), STATE, step(8), changed(1, 9), blame(3), find([7]), at(10),
]
EVERY_ANSWER = [[number] for number in (1, 2, 0, 0, 0, 3, 0, 1, 1, 0, 0, 1, 0, 4, 1, -1, 9, 0, 8, 8, 0)] + [
    row_told((2, 0, [3, 4]), (3, 1, [7, 7, 3, 1])),
    [4, 7, 7, 3, 1],
    row_told((1, 0, [1, 2, 3])),
    [9, 9, 0, 0, 5, 0],
    [1, 8, 1, 2, 2, 7, 7],
    [3, 1, 1, 2, 2, 3, 2],
    [9],
    [2, 3, 0, 3, 1],
    [-3],
]


class Form(unittest.TestCase):
    def test_each_answer_stands_behind_its_count(self):
        self.assertEqual(answers([0, 0, 2, 7, 8]), [1, 1])
        self.assertEqual(answers([0, 0, 0, 3, 1, 10]), [1, 1, 1, 0, 1, -12])

    def test_an_answer_of_several_numbers_stands_behind_its_count(self):
        self.assertEqual(answers([0, 0, 2, 7, 8, 16, 17, 1]), [1, 1, 6, 1, 1, 0, 2, 7, 8, 3, 2, 7, 8])
        self.assertEqual(answers([19, 16, 18, 0, 21, 0, 0, 23, 1, 5]), [6, 0, 0, 0, 0, 1, 0, 1, 0, 1, 0, 1, 0, 1, 0])
        self.assertEqual(answers([17, 1, 18, 1, 20, 0, 21, 0, 1, 22, 1, 23, 0]),
                         [1, -1, 1, -3, 1, -3, 1, -3, 1, -1, 1, -17])

    def test_every_call(self):
        expected = flat([len(answer)] + answer for answer in EVERY_ANSWER)
        self.assertEqual(answers(flat(EVERY_CALL)), expected)
        self.assertEqual({call[0] for call in EVERY_CALL}, set(range(24)))

    def test_any_call_may_be_first(self):
        firsts = [
            (new(0, []), 1), (write(1, []), -1), (move(1, 0), -1), (drop(1), -1), (hide(1, 1), -1),
            (split(1, 0), -1), (join(1), -1), (swap(1, 1), -1), (replace([1], []), -7), (BEGIN, 0),
            (END, -12), (CANCEL, -12), (UNDO, -13), (REDO, -14), (to(0), 0), (strike(0), -3), (WHOLE, 0),
            (text(1), -1), (at(0), 0), (step(0), -3), (changed(0, 0), 0), (blame(1), -1), (find([1]), 0),
        ]
        for call, answer in firsts:
            self.assertEqual(answers(call), [1, answer], call)
        self.assertEqual(answers(STATE), [6, 0, 0, 0, 0, 1, 0])

    def test_answers_are_whole_numbers_in_a_list(self):
        given = answers(flat(EVERY_CALL))
        self.assertIs(type(given), list)
        self.assertEqual({type(number) for number in given}, {int})

    def test_rows_of_numbers_that_look_like_calls(self):
        self.assertEqual(ask(new(0, [3, 1, 3, 1]), replace([3, 1], [9, 10]), drop(1)), [1, 2, 0])

    def test_rows_of_400_are_read_whole(self):
        self.assertEqual(
            ask(new(0, [3] * 400), write(1, [HUGE] * 400), replace([3] * 400, [-HUGE] * 400), new(0, [])),
            [-5, -1, -4, 1],
        )
        self.assertEqual(ask(find([3] * 400), find([HUGE] * 400), new(0, [])), [0, -4, 1])

    def test_the_most_calls_and_long_answers(self):
        calls = [new(0, [9] * 200) for number in range(12)] + [WHOLE] * 188
        given = told(*calls)
        self.assertEqual(len(given), 200)
        self.assertEqual(given[12:], [row_told(*[(number, 0, [9] * 200) for number in range(12, 0, -1)])] * 188)

    def test_the_greatest_wholes_are_read(self):
        for number in (HUGE, -HUGE):
            self.assertEqual(
                ask(to(number), strike(number), text(number), at(number), step(number), changed(number, -number),
                    blame(number)), [-3, -3, -1, -3, -3, -3, -1],
            )

    def test_a_long_list_is_gone_through_by_a_loop(self):
        calls = [new(0, [])] + [write(1, [k % 256] * 82) for k in range(199)]
        self.assertLessEqual(len(flat(calls)), 17000)
        limit = sys.getrecursionlimit()
        sys.setrecursionlimit(len(inspect.stack()) + 60)
        try:
            given = ask(*calls)
        finally:
            sys.setrecursionlimit(limit)
        self.assertEqual(given, [1] + [0] * 199)


class NothingKept(unittest.TestCase):
    def test_what_is_handed_in_is_not_changed(self):
        calls = flat(EVERY_CALL)
        before = list(calls)
        answers(calls)
        self.assertEqual(calls, before)

    def test_what_is_handed_in_is_not_changed_for_a_while(self):
        class Watched(list):
            def refuse(self, *args, **kwargs):
                raise AssertionError("the list was changed")

            __setitem__ = __delitem__ = __iadd__ = __imul__ = refuse
            append = extend = insert = pop = remove = clear = sort = reverse = refuse

        given = answers(Watched(flat(EVERY_CALL)))
        self.assertEqual(given, answers(flat(EVERY_CALL)))

    def test_a_second_time_answers_as_the_first_did(self):
        first = answers(flat(EVERY_CALL))
        second = answers(flat(EVERY_CALL))
        self.assertEqual(first, second)
        self.assertIsNot(first, second)

    def test_an_open_group_is_not_kept(self):
        self.assertEqual(ask(BEGIN, new(0, [])), [0, 1])
        self.assertEqual(ask(END), [-12])
        self.assertEqual(ask(new(0, [])), [1])

    def test_steps_are_not_kept(self):
        told(new(0, []), *[write(1, [k]) for k in range(30)], UNDO)
        self.assertEqual(told(STATE, UNDO, REDO, WHOLE, at(0), step(0)),
                         [[0, 0, 0, 0, 1, 0], [-13], [-14], [0], [0], [-3]])

    def test_what_was_given_back_may_be_changed(self):
        first = answers(new(0, []))
        first.append(5)
        self.assertEqual(answers(new(0, [])), [1, 1])


if __name__ == "__main__":
    unittest.main()
