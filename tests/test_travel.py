"""Points 14 to 17: undo, redo, to and strike, one class a point; and what the 21st done step does."""

import unittest

from helper import BEGIN, CANCEL, END, HUGE, REDO, STATE, UNDO, WHOLE, Refusing, ask, at, blame, changed, drop, held
from helper import hide, join, last, last_told, move, new, pad_after, replace, row_of_cells, row_told, say, split, step
from helper import strike, swap, text, to, told, write

# Three steps, which leave the cells 2 and 1.
THREE = [new(0, [1]), new(0, [2]), write(1, [5, 6])]
AT_ONE = row_told((1, 0, [1]))
AT_TWO = row_told((2, 0, [2]), (1, 0, [1]))
AT_THREE = row_told((2, 0, [2]), (1, 0, [5, 6]))
OUT = (-1, -HUGE, HUGE)


def state(done, steps, group=0, edits=0, number=3, forgotten=0):
    return [done, steps, group, edits, number, forgotten]


class Point14Undo(Refusing):
    def test_the_last_done_step_is_undone(self):
        given = told(*THREE, UNDO, WHOLE, STATE, UNDO, WHOLE, STATE, UNDO, WHOLE, STATE)[3:]
        self.assertEqual(given, [
            [2], AT_TWO, state(2, 3), [1], AT_ONE, state(1, 3), [0], [0], state(0, 3),
        ])

    def test_it_is_the_first_of_the_undone_ones(self):
        self.assertEqual(told(*THREE, UNDO, UNDO, step(1), step(2), at(2), at(3))[5:],
                         [[1, 0, 2, 0, 1, 2], [1, 1, 1, 2, 5, 6], AT_TWO, AT_THREE])

    def test_nothing_is_done(self):
        self.refused([], (UNDO, -13))
        self.refused(THREE + [UNDO, UNDO, UNDO], (UNDO, -13))

    def test_a_group_is_open(self):
        self.refused(THREE + [BEGIN], (UNDO, -11))
        self.refused(THREE + [BEGIN, write(1, [7])], (UNDO, -11))

    def test_order(self):
        self.refused([BEGIN], (UNDO, -11))

    def test_a_group_is_undone_whole(self):
        self.assertEqual(told(*THREE, BEGIN, drop(1), hide(2, 1), new(0, []), END, UNDO, WHOLE)[-2:], [[3], AT_THREE])

    def test_the_next_number_stays(self):
        self.assertEqual(ask(new(0, []), new(0, []), UNDO, UNDO, new(0, [])), [1, 2, 1, 0, 3])

    def test_what_is_undone_is_not_there(self):
        self.refused(THREE + [UNDO, UNDO], (write(2, []), -1), (drop(2), -1), (write(1, [1]), -7), (new(2, []), -2))

    def test_from_twenty_steps(self):
        self.assertEqual(last(new(0, []), *[write(1, [k]) for k in range(19)], UNDO), 19)

    def test_each_kind_of_edit_is_undone(self):
        calls = [new(0, [1, 2, 1]), new(1, [3]), hide(2, 1)]
        before = last_told(*calls, WHOLE)
        for edit in (new(1, [7]), write(1, []), move(1, 2), drop(1), hide(2, 0), split(1, 2), join(1), swap(1, 2),
                     replace([1], [])):
            given = told(*calls, edit, WHOLE, UNDO, WHOLE, REDO, WHOLE)[4:]
            self.assertNotEqual(given[0], before, edit)
            self.assertEqual(given[2], before, edit)
            self.assertEqual(given[4], given[0], edit)


class Point15Redo(Refusing):
    def test_the_first_undone_step_is_done(self):
        given = told(*THREE, UNDO, UNDO, UNDO, REDO, WHOLE, STATE, REDO, WHOLE, STATE, REDO, WHOLE, STATE)[6:]
        self.assertEqual(given, [
            [2], AT_ONE, state(1, 3), [1], AT_TWO, state(2, 3), [0], AT_THREE, state(3, 3),
        ])

    def test_nothing_is_undone(self):
        self.refused([], (REDO, -14))
        self.refused(THREE, (REDO, -14))
        self.refused(THREE + [UNDO, REDO], (REDO, -14))

    def test_a_group_is_open(self):
        self.refused(THREE + [UNDO, BEGIN], (REDO, -11))
        self.refused(THREE + [UNDO, BEGIN, write(1, [7])], (REDO, -11))

    def test_order(self):
        self.refused(THREE + [BEGIN], (REDO, -11))
        self.refused([BEGIN], (REDO, -11))

    def test_a_group_is_done_again_whole(self):
        calls = [new(0, [1]), BEGIN, new(0, [2]), write(1, [5, 6]), END]
        self.assertEqual(told(*calls, UNDO, WHOLE, REDO, WHOLE)[5:], [[1], AT_ONE, [0], AT_THREE])

    def test_a_made_cell_comes_back_with_its_number(self):
        self.assertEqual(told(new(0, [1]), split(1, 0), UNDO, REDO, WHOLE, new(0, []))[3:],
                         [[0], row_told((1, 0, []), (2, 0, [1])), [3]])

    def test_nineteen_are_undone_then(self):
        calls = [new(0, [])] + [write(1, [k]) for k in range(19)]
        self.assertEqual(ask(*calls, *[UNDO] * 20, REDO)[20:], list(range(19, -1, -1)) + [19])


class TheUndoneSteps(Refusing):
    def test_they_are_gone_once_a_step_is_added(self):
        given = told(*THREE, UNDO, UNDO, hide(1, 1), STATE, REDO, step(1), step(2), at(3), WHOLE)[5:]
        self.assertEqual(given, [
            [0], state(2, 2), [-14], [1, 4, 1, 1], [-3], [-3], row_told((1, 1, [1])),
        ])

    def test_they_are_gone_once_a_group_is_a_step(self):
        given = told(*THREE, UNDO, UNDO, BEGIN, hide(1, 1), STATE, END, STATE, REDO)[7:]
        self.assertEqual(given, [state(1, 3, 1, 1), [1], state(2, 2), [-14]])

    def test_they_stay_when_an_empty_group_is_ended(self):
        given = told(*THREE, UNDO, UNDO, BEGIN, END, STATE, REDO, WHOLE)[6:]
        self.assertEqual(given, [[0], state(1, 3), [1], AT_TWO])

    def test_they_stay_when_a_group_is_cancelled(self):
        given = told(*THREE, UNDO, UNDO, BEGIN, drop(1), CANCEL, STATE, REDO, WHOLE)[7:]
        self.assertEqual(given, [[1], state(1, 3), [1], AT_TWO])

    def test_they_stay_when_a_call_is_refused(self):
        self.refused(THREE + [UNDO], (write(1, [1]), -7), (drop(3), -1), (new(0, [256]), -4), (END, -12), (CANCEL, -12))

    def test_they_stay_when_something_is_told(self):
        tellings = [WHOLE, text(1), at(0), STATE, step(0), changed(0, 3), blame(1)]
        self.assertEqual(last_told(*THREE, UNDO, *tellings, REDO), [0])

    def test_they_are_gone_once_a_step_is_added_at_the_beginning(self):
        self.assertEqual(told(*THREE, to(0), new(0, [9]), STATE, WHOLE)[4:],
                         [[3], state(1, 1, number=4), row_told((3, 0, [9]))])


class Point16To(Refusing):
    def test_as_many_steps_are_done_as_the_position_says(self):
        given = told(*THREE, to(1), WHOLE, STATE, to(3), WHOLE, STATE, to(0), WHOLE, STATE, to(2), WHOLE, STATE)[3:]
        self.assertEqual(given, [
            [2], AT_ONE, state(1, 3), [2], AT_THREE, state(3, 3), [3], [0], state(0, 3), [2], AT_TWO, state(2, 3),
        ])

    def test_to_where_it_is(self):
        self.assertEqual(told(*THREE, to(3), STATE, UNDO, to(2), STATE)[3:], [[0], state(3, 3), [2], [0], state(2, 3)])
        self.assertEqual(told(to(0), STATE), [[0], state(0, 0, number=1)])

    def test_no_position_of_the_history(self):
        self.refused(THREE, (to(4), -3), *[(to(position), -3) for position in OUT])
        self.refused(THREE + [UNDO, UNDO], (to(4), -3), (to(-1), -3))
        self.refused([], (to(1), -3), *[(to(position), -3) for position in OUT])

    def test_a_group_is_open(self):
        self.refused(THREE + [BEGIN], (to(1), -11), (to(3), -11))
        self.refused(THREE + [BEGIN, drop(1)], (to(0), -11))

    def test_order(self):
        self.refused(THREE + [BEGIN], (to(4), -11), *[(to(position), -11) for position in OUT])

    def test_over_twenty_steps(self):
        calls = [new(0, [])] + [write(1, [k]) for k in range(19)]
        self.assertEqual(told(*calls, to(0), WHOLE, to(20), WHOLE)[20:], [[20], [0], [20], row_told((1, 0, [18]))])
        self.assertEqual(last(*calls, to(21)), -3)


class Point17Strike(Refusing):
    # Four steps of which each but the first can be struck.
    FOUR = [new(0, [1]), new(1, [2]), write(1, [5]), hide(1, 1)]

    def test_the_first_done_step(self):
        calls = [new(0, [1]), new(0, [2]), write(2, [7])]
        self.assertEqual(told(*calls, strike(0), WHOLE, STATE, step(0), step(1), at(0), at(1))[3:], [
            [0], row_told((2, 0, [7])), state(2, 2), [1, 0, 2, 0, 1, 2], [1, 1, 2, 1, 7], [0], row_told((2, 0, [2])),
        ])

    def test_a_middle_one(self):
        self.assertEqual(told(*self.FOUR, strike(1), WHOLE, STATE, at(1), at(2), step(1))[4:], [
            [0], row_told((1, 1, [5])), state(3, 3), row_told((1, 0, [1])), row_told((1, 0, [5])), [1, 1, 1, 1, 5],
        ])
        self.assertEqual(told(*self.FOUR, strike(2), WHOLE)[4:], [[0], row_told((1, 1, [1]), (2, 0, [2]))])

    def test_the_last_done_step(self):
        self.assertEqual(told(*self.FOUR, strike(3), WHOLE, STATE, UNDO, WHOLE)[4:], [
            [0], row_told((1, 0, [5]), (2, 0, [2])), state(3, 3), [2], row_told((1, 0, [1]), (2, 0, [2])),
        ])
        self.assertEqual(told(new(0, []), strike(0), WHOLE, STATE, UNDO)[1:], [[0], [0], state(0, 0, number=2), [-13]])

    def test_one_behind_the_other(self):
        self.assertEqual(ask(*self.FOUR, strike(3), strike(2), strike(1), strike(0), strike(0))[4:], [0, 0, 0, 0, -3])

    def test_it_cannot_be_struck(self):
        self.refused(self.FOUR, (strike(0), -15))
        self.refused([new(0, [1]), hide(1, 1), drop(1)], (strike(0), -15))
        self.refused([new(0, []), new(1, [])], (strike(0), -15))
        self.refused([new(0, []), new(0, []), move(1, 0), move(1, 2)], (strike(1), -15), (strike(0), -15))

    def test_it_cannot_be_struck_and_the_undone_steps_stay(self):
        self.refused(self.FOUR + [UNDO], (strike(0), -15))
        self.assertEqual(told(*self.FOUR, UNDO, strike(0), REDO, WHOLE)[5:],
                         [[-15], [0], row_told((1, 1, [5]), (2, 0, [2]))])

    def test_only_the_last_edit_of_the_last_step_cannot_be_done(self):
        calls = [new(0, [1]), new(0, [2]), write(2, [3]), BEGIN, hide(2, 1), write(2, [4]), drop(1), END]
        self.refused(calls, (strike(0), -15), (strike(1), -15))
        self.assertEqual(told(*calls, strike(2), WHOLE)[8:], [[0], row_told((2, 1, [4]))])

    def test_undone_steps_that_need_it_do_not_keep_it(self):
        given = told(*self.FOUR, to(1), strike(0), WHOLE, STATE, REDO)[4:]
        self.assertEqual(given, [[3], [0], [0], state(0, 0), [-14]])

    def test_the_undone_steps_are_gone(self):
        self.assertEqual(told(*self.FOUR, UNDO, strike(1), STATE, WHOLE, REDO, at(2), at(3), step(2))[5:], [
            [0], state(2, 2), row_told((1, 0, [5])), [-14], row_told((1, 0, [5])), [-3], [-3],
        ])

    def test_the_step_is_not_a_done_one(self):
        self.refused(self.FOUR, (strike(4), -3), *[(strike(index), -3) for index in OUT])
        self.refused(self.FOUR + [UNDO], (strike(3), -3), (strike(4), -3), (strike(-1), -3))
        self.refused([], (strike(0), -3), *[(strike(index), -3) for index in OUT])

    def test_a_group_is_open(self):
        self.refused(self.FOUR + [BEGIN], (strike(1), -11))
        self.refused(self.FOUR + [BEGIN, drop(1)], (strike(1), -11))

    def test_order(self):
        self.refused(self.FOUR + [BEGIN], (strike(0), -11), *[(strike(index), -11) for index in OUT])
        self.refused([BEGIN], (strike(0), -11))

    def test_the_later_edits_have_the_numbers_that_they_had(self):
        calls = [new(0, [1, 2]), new(1, []), new(2, [3]), split(1, 1)]
        self.assertEqual(told(*calls, drop(2), strike(4), new(0, []))[5:], [[0], [5]])
        self.assertEqual(told(new(0, [1, 2]), new(0, []), split(1, 1), new(1, [8]), strike(1), WHOLE, new(0, []))[4:], [
            [0], row_told((1, 0, [1]), (4, 0, [8]), (3, 0, [2])), [5],
        ])

    def test_the_next_number_stays(self):
        self.assertEqual(ask(new(0, []), new(0, []), strike(1), strike(0), new(0, [])), [1, 2, 0, 0, 3])

    def test_a_place_that_is_then_outside_the_text(self):
        calls = [new(0, [1, 2]), write(1, [1, 2, 3, 4]), split(1, 3)]
        self.refused(calls, (strike(1), -15))
        self.assertEqual(told(new(0, [1, 2]), write(1, [1, 2, 3, 4]), split(1, 2), strike(1), WHOLE)[3:],
                         [[0], row_told((1, 0, [1, 2]), (2, 0, []))])

    def test_a_split_is_done_on_the_text_that_is_there_then(self):
        self.assertEqual(told(new(0, [1, 2, 3]), write(1, [7, 8]), split(1, 1), strike(1), WHOLE)[3:],
                         [[0], row_told((1, 0, [1]), (2, 0, [2, 3]))])

    def test_a_join_takes_the_cell_that_is_behind_then(self):
        calls = [new(0, [1]), new(1, [2]), new(1, [3])]
        self.assertEqual(told(*calls, join(1), strike(2), WHOLE)[4:], [[0], row_told((1, 0, [1, 2]))])
        self.refused(calls + [join(1), write(2, [9])], (strike(2), -15))

    def test_no_cell_is_behind_then(self):
        self.refused([new(0, [1]), new(1, [2]), join(1)], (strike(1), -15))

    def test_two_texts_that_are_then_too_long(self):
        calls = [new(0, [1] * 150), new(1, [2] * 150), write(2, [2] * 50), join(1)]
        self.refused(calls, (strike(2), -15))

    def test_a_replaced_text_that_is_then_too_long(self):
        calls = [new(0, [1] * 150), write(1, [1, 2]), replace([1], [1, 1])]
        self.refused(calls, (strike(1), -15))

    def test_a_replace_is_done_on_the_texts_that_are_there_then(self):
        self.assertEqual(told(new(0, [1, 2]), write(1, [2]), new(1, [2]), replace([2], [3]), strike(1), WHOLE)[4:],
                         [[0], row_told((1, 0, [1, 3]), (2, 0, [3]))])

    def test_twelve_cells_then(self):
        self.refused(row_of_cells(12) + [drop(12), new(0, [])], (strike(12), -15))
        self.refused(row_of_cells(12) + [drop(12), split(1, 0)], (strike(12), -15))

    def test_a_swap_without_one_of_the_two(self):
        self.refused([new(0, []), new(0, []), swap(1, 2)], (strike(0), -15), (strike(1), -15))

    def test_a_step_that_then_changes_nothing_is_still_a_step(self):
        calls = [new(0, [1]), write(1, [2]), write(1, [1]), hide(1, 1)]
        self.assertEqual(told(*calls, strike(1), STATE, step(1), at(1), at(2), changed(1, 2), blame(1))[4:], [
            [0], state(3, 3, number=2), [1, 1, 1, 1, 1], row_told((1, 0, [1])), row_told((1, 0, [1])), [0], [1],
        ])
        self.assertEqual(told(*calls, strike(1), UNDO, WHOLE, UNDO, WHOLE)[5:],
                         [[2], row_told((1, 0, [1])), [1], row_told((1, 0, [1]))])

    def test_nothing_is_added_to_the_history(self):
        self.assertEqual(told(*self.FOUR, strike(1), UNDO, WHOLE)[5:], [[2], row_told((1, 0, [5]))])

    def test_a_group_is_struck_whole(self):
        calls = [new(0, [1]), BEGIN, hide(1, 1), new(0, []), END, write(1, [3])]
        self.assertEqual(told(*calls, strike(1), WHOLE, STATE)[6:], [[0], row_told((1, 0, [3])), state(2, 2)])

    def test_a_cell_that_was_dropped_is_there_again(self):
        self.assertEqual(told(*self.FOUR, drop(2), write(1, []), strike(4), WHOLE)[6:],
                         [[0], row_told((1, 1, []), (2, 0, [2]))])

    def test_behind_forgotten_steps(self):
        calls = [new(0, [])] + [write(1, [k]) for k in range(25)]
        self.assertEqual(told(*calls, strike(0), STATE, at(0), at(1), step(0))[26:], [
            [0], state(19, 19, number=2, forgotten=6), row_told((1, 0, [4])), row_told((1, 0, [6])), [1, 1, 1, 1, 6],
        ])
        self.assertEqual(told(*calls, strike(19), strike(0), write(1, [99]), write(1, [98]), STATE)[26:],
                         [[0], [0], [0], [0], state(20, 20, number=2, forgotten=6)])

    def test_edits_go_on_behind_it(self):
        self.assertEqual(told(*self.FOUR, strike(1), write(1, [9]), WHOLE, UNDO, WHOLE)[5:],
                         [[0], row_told((1, 1, [9])), [3], row_told((1, 1, [5]))])


class TheTwentyFirstDoneStep(unittest.TestCase):
    # Step 0 makes the cell, step k + 1 writes k.
    CALLS = [new(0, [])] + [write(1, [k]) for k in range(20)]

    def behind(self, *calls):
        return told(*self.CALLS, *calls)[len(self.CALLS):]

    def test_twenty_are_remembered(self):
        self.assertEqual(told(*self.CALLS[:20], STATE, at(0), step(0), blame(1))[20:],
                         [state(20, 20, number=2), [0], [1, 0, 1, 0, 0], [20]])

    def test_state(self):
        self.assertEqual(self.behind(STATE), [state(20, 20, number=2, forgotten=1)])
        self.assertEqual(self.behind(hide(1, 1), STATE)[1:], [state(20, 20, number=2, forgotten=2)])

    def test_at(self):
        self.assertEqual(self.behind(at(0), at(1), at(20), at(21)),
                         [row_told((1, 0, [])), row_told((1, 0, [0])), row_told((1, 0, [19])), [-3]])

    def test_step(self):
        self.assertEqual(self.behind(step(0), step(19), step(20)), [[1, 1, 1, 1, 0], [1, 1, 1, 1, 19], [-3]])

    def test_changed(self):
        self.assertEqual(self.behind(changed(0, 20), changed(0, 0), changed(20, 21)), [[1, 1, 3], [0], [-3]])

    def test_blame(self):
        self.assertEqual(self.behind(blame(1)), [[20]])
        self.assertEqual(self.behind(new(0, []), blame(1), blame(2), BEGIN, write(2, [1]), blame(2))[1:],
                         [[19], [20], [0], [0], [21]])

    def test_blame_of_a_cell_that_only_forgotten_steps_wrote(self):
        calls = [new(0, [1]), new(0, [])] + [write(2, [k]) for k in range(19)]
        self.assertEqual(told(*calls, blame(1), write(2, [90]), blame(1))[21:], [[0], [0], [0]])

    def test_undo(self):
        given = self.behind(*[UNDO] * 21, WHOLE, STATE)
        self.assertEqual(given[:21], [[count] for count in range(19, -1, -1)] + [[-13]])
        self.assertEqual(given[21:], [row_told((1, 0, [])), state(0, 20, number=2, forgotten=1)])

    def test_a_step_behind_undone_ones_forgets_nothing(self):
        self.assertEqual(self.behind(UNDO, write(1, [77]), STATE, at(0))[2:],
                         [state(20, 20, number=2, forgotten=1), row_told((1, 0, []))])
        self.assertEqual(self.behind(to(0), write(1, [77]), STATE)[2:], [state(1, 1, number=2, forgotten=1)])

    def test_an_open_group_forgets_nothing_until_it_ends(self):
        self.assertEqual(self.behind(BEGIN, write(1, [77]), write(1, [78]), STATE, END, STATE, at(0))[3:], [
            state(20, 20, 1, 2, 2, 1), [2], state(20, 20, number=2, forgotten=2), row_told((1, 0, [0])),
        ])
        self.assertEqual(self.behind(BEGIN, write(1, [77]), CANCEL, STATE)[3:], [state(20, 20, number=2, forgotten=1)])

    def test_a_group_counts_as_one_step_and_is_forgotten_whole(self):
        calls = [BEGIN, new(0, []), new(0, [8]), END] + [write(1, [k]) for k in range(19)]
        self.assertEqual(told(*calls, STATE, write(1, [50]), STATE, at(0))[23:], [
            state(20, 20), [0], state(20, 20, forgotten=1), row_told((2, 0, [8]), (1, 0, [])),
        ])

    def test_redo_forgets_nothing(self):
        self.assertEqual(self.behind(to(0), to(20), UNDO, REDO, STATE)[4:], [state(20, 20, number=2, forgotten=1)])


class WhatIsHeld(unittest.TestCase):
    def test_the_documents_that_are_kept_are_those_that_the_steps_make(self):
        pad = pad_after(*THREE, hide(2, 1), UNDO, UNDO, hide(1, 1), strike(1))
        history = pad.history
        self.assertEqual(history.documents, [(), ((1, 0, (1,)),), ((1, 1, (1,)),)])
        self.assertEqual(history.steps, [((0, 1, 0, (1,)),), ((4, 1, 1),)])
        self.assertEqual(pad.document, history.documents[2])

    def test_undo_and_redo_bring_all_back(self):
        pad = pad_after(*THREE)
        before = held(pad)
        say(pad, UNDO, UNDO, UNDO, REDO, REDO, REDO)
        self.assertEqual(held(pad), before)


if __name__ == "__main__":
    unittest.main()
