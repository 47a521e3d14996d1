"""Points 18 to 23: the calls that tell, one class a point."""

import unittest

from helper import BEGIN, CANCEL, END, HUGE, REDO, STATE, UNDO, WHOLE, Refusing, at, blame, changed, drop, find, hide
from helper import held, join, last_told, move, new, numbers_used, pad_after, replace, row_of_cells, row_told, say
from helper import split, step, strike, swap, text, to, told, write

OUT = (-1, -HUGE, HUGE)
NO_NUMBERS = (0, -1, 3, 99, 100, HUGE, -HUGE)
# Leaves the cells 2 (hidden, of 3 bytes) and 1 (of 2 bytes).
TWO = [new(0, [7, 8]), new(0, [0, 255, 0]), hide(2, 1)]
TWO_TOLD = row_told((2, 1, [0, 255, 0]), (1, 0, [7, 8]))


class Point18Whole(Refusing):
    def test_the_document(self):
        self.assertEqual(last_told(*TWO, WHOLE), [2, 2, 1, 3, 0, 255, 0, 1, 0, 2, 7, 8])

    def test_no_cells(self):
        self.assertEqual(told(WHOLE), [[0]])
        self.assertEqual(last_told(new(0, [1]), drop(1), WHOLE), [0])

    def test_an_empty_text(self):
        self.assertEqual(last_told(new(0, []), new(1, []), WHOLE), [2, 1, 0, 0, 2, 0, 0])

    def test_the_greatest_document(self):
        self.assertEqual(last_told(*row_of_cells(12, [255] * 200), WHOLE),
                         [12] + sum(([number, 0, 200] + [255] * 200 for number in range(1, 13)), []))

    def test_the_edits_of_an_open_group_are_in_it(self):
        self.assertEqual(told(*TWO, BEGIN, drop(2), write(1, [5]), WHOLE, CANCEL, WHOLE)[6:],
                         [row_told((1, 0, [5])), [2], TWO_TOLD])


class Point18Text(Refusing):
    def test_the_text(self):
        self.assertEqual(told(*TWO, text(1), text(2))[3:], [[2, 7, 8], [3, 0, 255, 0]])
        self.assertEqual(last_told(new(0, []), text(1)), [0])
        self.assertEqual(last_told(new(0, [3] * 200), text(1)), [200] + [3] * 200)

    def test_there_is_no_such_cell(self):
        self.refused(TWO, *[(text(number), -1) for number in NO_NUMBERS])
        self.refused(TWO + [drop(1)], (text(1), -1))
        self.refused([], (text(1), -1))
        self.refused(TWO + [UNDO, UNDO], (text(2), -1))

    def test_the_edits_of_an_open_group_are_in_it(self):
        calls = TWO + [BEGIN, drop(2), write(1, [5]), new(0, [6])]
        self.assertEqual(told(*calls, text(1), text(2), text(3))[7:], [[1, 5], [-1], [1, 6]])
        self.assertEqual(told(*calls, CANCEL, text(1), text(2), text(3))[8:], [[2, 7, 8], [3, 0, 255, 0], [-1]])


class Point18At(Refusing):
    def test_the_document_at_each_position(self):
        self.assertEqual(told(*TWO, at(0), at(1), at(2), at(3))[3:], [
            [0], [1, 1, 0, 2, 7, 8], [2, 2, 0, 3, 0, 255, 0, 1, 0, 2, 7, 8], [2, 2, 1, 3, 0, 255, 0, 1, 0, 2, 7, 8],
        ])
        self.assertEqual(told(at(0)), [[0]])

    def test_undone_steps_have_positions_too(self):
        self.assertEqual(told(*TWO, UNDO, UNDO, at(1), at(3), WHOLE)[5:],
                         [row_told((1, 0, [7, 8])), TWO_TOLD, row_told((1, 0, [7, 8]))])

    def test_the_edits_of_an_open_group_are_in_none(self):
        self.assertEqual(told(*TWO, BEGIN, drop(2), at(3), at(2), at(4))[5:],
                         [TWO_TOLD, row_told((2, 0, [0, 255, 0]), (1, 0, [7, 8])), [-3]])
        self.assertEqual(told(*TWO, UNDO, BEGIN, drop(2), at(2), at(3), at(4))[6:],
                         [row_told((2, 0, [0, 255, 0]), (1, 0, [7, 8])), TWO_TOLD, [-3]])

    def test_a_group_is_one_position(self):
        self.assertEqual(told(BEGIN, new(0, [1]), new(0, [2]), END, at(1), at(2))[4:],
                         [row_told((2, 0, [2]), (1, 0, [1])), [-3]])

    def test_no_position(self):
        self.refused(TWO, (at(4), -3), *[(at(position), -3) for position in OUT])
        self.refused([], (at(1), -3), *[(at(position), -3) for position in OUT])
        self.refused(TWO + [BEGIN, drop(1)], (at(4), -3))


class Point19State(unittest.TestCase):
    def test_at_the_beginning(self):
        self.assertEqual(told(STATE), [[0, 0, 0, 0, 1, 0]])

    def test_steps_done_and_in_the_history(self):
        self.assertEqual(told(*TWO, STATE, UNDO, STATE, UNDO, STATE, REDO, STATE)[3:], [
            [3, 3, 0, 0, 3, 0], [2], [2, 3, 0, 0, 3, 0], [1], [1, 3, 0, 0, 3, 0], [1], [2, 3, 0, 0, 3, 0],
        ])

    def test_an_open_group(self):
        self.assertEqual(told(*TWO, BEGIN, STATE, drop(1), STATE, drop(1), STATE, new(0, []), STATE, END, STATE)[4:], [
            [3, 3, 1, 0, 3, 0], [0], [3, 3, 1, 1, 3, 0], [-1], [3, 3, 1, 1, 3, 0], [3], [3, 3, 1, 2, 4, 0], [2],
            [4, 4, 0, 0, 4, 0],
        ])
        writes = [write(1, [k]) for k in range(11)]
        self.assertEqual(last_told(new(0, [99]), BEGIN, *writes, STATE), [1, 1, 1, 10, 2, 0])

    def test_a_cancelled_group(self):
        self.assertEqual(last_told(*TWO, BEGIN, new(0, []), CANCEL, STATE), [3, 3, 0, 0, 4, 0])

    def test_the_next_number(self):
        self.assertEqual(last_told(*numbers_used(98), STATE), [0, 0, 0, 0, 99, 0])
        self.assertEqual(told(*numbers_used(98), new(0, []), STATE, new(0, []), STATE)[-3:],
                         [[1, 1, 0, 0, 100, 0], [-16], [1, 1, 0, 0, 100, 0]])

    def test_forgotten_steps(self):
        calls = [new(0, [])] + [write(1, [k]) for k in range(198)]
        self.assertEqual(last_told(*calls, STATE), [20, 20, 0, 0, 2, 179])

    def test_its_numbers_are_whole_numbers(self):
        for number in last_told(*TWO, BEGIN, STATE) + last_told(STATE):
            self.assertIs(type(number), int)


class Point20Step(Refusing):
    # An edit of each of the nine kinds, and one more make, behind a cell.
    TEN = [
        new(0, [7, 8]), write(1, [1, 2, 3]), split(1, 2), move(1, 2), hide(1, 1), swap(1, 2), new(2, []),
        replace([3], [4, 4]), join(1), drop(3),
    ]

    def test_an_edit_of_each_kind(self):
        self.assertEqual(told(*self.TEN, *[step(index) for index in range(10)])[10:], [
            [1, 0, 1, 0, 2, 7, 8],
            [1, 1, 1, 3, 1, 2, 3],
            [1, 5, 1, 2, 2],
            [1, 2, 1, 2],
            [1, 4, 1, 1],
            [1, 7, 1, 2],
            [1, 0, 3, 2, 0],
            [1, 8, 1, 3, 2, 4, 4],
            [1, 6, 1],
            [1, 3, 3],
        ])

    def test_a_step_of_several_edits(self):
        self.assertEqual(last_told(BEGIN, *self.TEN, END, step(0)), [
            10, 0, 1, 0, 2, 7, 8, 1, 1, 3, 1, 2, 3, 5, 1, 2, 2, 2, 1, 2, 4, 1, 1, 7, 1, 2, 0, 3, 2, 0, 8, 1, 3, 2, 4, 4,
            6, 1, 3, 3,
        ])

    def test_empty_texts(self):
        self.assertEqual(told(new(0, []), write(1, [5]), replace([5], []), write(1, [6]), write(1, []),
                              step(0), step(2), step(4))[5:], [[1, 0, 1, 0, 0], [1, 8, 1, 5, 0], [1, 1, 1, 0]])

    def test_the_longest_texts(self):
        calls = [new(0, [1] * 200), replace([1] * 200, [2] * 200)]
        self.assertEqual(told(*calls, step(0), step(1))[2:],
                         [[1, 0, 1, 0, 200] + [1] * 200, [1, 8, 200] + [1] * 200 + [200] + [2] * 200])

    def test_an_undone_step(self):
        self.assertEqual(told(*TWO, to(0), step(2), step(0))[4:], [[1, 4, 2, 1], [1, 0, 1, 0, 2, 7, 8]])

    def test_an_open_group_is_no_step(self):
        self.refused(TWO + [BEGIN, drop(1)], (step(3), -3))
        self.assertEqual(last_told(*TWO, BEGIN, drop(1), step(2)), [1, 4, 2, 1])

    def test_no_such_step(self):
        self.refused(TWO, (step(3), -3), *[(step(index), -3) for index in OUT])
        self.refused([], (step(0), -3), *[(step(index), -3) for index in OUT])
        self.refused(TWO + [UNDO, hide(1, 1)], (step(3), -3))

    def test_edits_that_were_refused_are_in_none(self):
        self.assertEqual(last_told(BEGIN, new(0, []), drop(5), write(1, []), hide(1, 1), END, step(0)),
                         [2, 0, 1, 0, 0, 4, 1, 1])


class Point21Changed(Refusing):
    # Position 5 has the cells 1 to 5 in this order.
    FIVE = [new(0, [1]), new(1, [2]), new(2, [3]), new(3, [4]), new(4, [5])]

    def test_each_kind_alone(self):
        for edits, pair in (([drop(2)], [2, 1]), ([new(2, [])], [6, 2]), ([write(2, [9])], [2, 3]),
                            ([hide(2, 1)], [2, 4]), ([hide(2, 1), write(2, [])], [2, 5])):
            self.assertEqual(last_told(*self.FIVE, BEGIN, *edits, END, changed(5, 6)), [1] + pair)

    def test_all_kinds_and_their_order(self):
        edits = [
            drop(4), new(0, [6]), write(5, [9]), hide(1, 1), hide(3, 1), write(3, []), move(5, 0), new(6, [7]),
            swap(1, 3),
        ]
        calls = self.FIVE + [BEGIN] + edits + [END]
        self.assertEqual(last_told(*calls, WHOLE)[0], 6)
        self.assertEqual(last_told(*calls, changed(5, 6)), [6, 1, 4, 3, 5, 4, 1, 5, 3, 6, 2, 7, 2])
        # In the row 5 6 7 3 2 1 of position 6.
        self.assertEqual(last_told(*calls, changed(6, 5)), [6, 5, 3, 6, 1, 7, 1, 3, 5, 1, 4, 4, 2])

    def test_cells_at_q_alone_stand_in_the_order_of_q(self):
        self.assertEqual(last_told(new(0, []), new(0, []), new(0, []), changed(0, 3)), [3, 3, 2, 2, 2, 1, 2])
        self.assertEqual(last_told(new(0, []), new(0, []), new(0, []), changed(3, 0)), [3, 3, 1, 2, 1, 1, 1])
        self.assertEqual(last_told(new(0, []), new(0, []), new(0, []), changed(3, 1)), [2, 3, 1, 2, 1])

    def test_p_is_q(self):
        self.assertEqual(told(*self.FIVE, changed(5, 5), changed(0, 0), changed(3, 3))[5:], [[0], [0], [0]])
        self.assertEqual(told(changed(0, 0)), [[0]])

    def test_another_order_only(self):
        self.assertEqual(told(*self.FIVE, swap(1, 5), move(2, 0), changed(5, 7), changed(7, 5))[7:], [[0], [0]])

    def test_what_was_done_and_taken_back_is_not_told(self):
        to_and_fro = [write(1, [9]), write(1, [1]), hide(2, 1), hide(2, 0)]
        self.assertEqual(last_told(*self.FIVE, *to_and_fro, changed(5, 9)), [0])

    def test_a_cell_that_came_and_went_between(self):
        self.assertEqual(last_told(*self.FIVE, new(0, []), drop(6), changed(5, 7)), [0])

    def test_twenty_four_cells(self):
        calls = row_of_cells(12) + [BEGIN] + [drop(number) for number in range(1, 11)] + [END]
        calls += [BEGIN, drop(11), drop(12)] + [new(0, []) for k in range(8)] + [END]
        calls += [BEGIN] + [new(0, []) for k in range(4)] + [END]
        expected = [[number, 1] for number in range(1, 13)] + [[number, 2] for number in range(24, 12, -1)]
        self.assertEqual(last_told(*calls, changed(12, 15)), [24] + sum(expected, []))

    def test_undone_steps_have_positions_too(self):
        self.assertEqual(last_told(*self.FIVE, write(1, []), to(0), changed(5, 6)), [1, 1, 3])

    def test_the_edits_of_an_open_group_are_in_none(self):
        self.assertEqual(told(*self.FIVE, BEGIN, drop(1), write(2, []), new(0, []), changed(5, 5), changed(4, 5),
                              changed(5, 6))[9:], [[0], [1, 5, 2], [-3]])

    def test_no_position(self):
        self.refused(self.FIVE, (changed(0, 6), -3), (changed(6, 0), -3), (changed(6, 6), -3),
                     *[(changed(0, position), -3) for position in OUT],
                     *[(changed(position, 5), -3) for position in OUT],
                     *[(changed(position, position), -3) for position in OUT])
        self.refused([], (changed(0, 1), -3), (changed(1, 0), -3), (changed(-1, 0), -3))


class Point22Blame(Refusing):
    # Step 1 makes the cell 1, step 2 the cell 2 behind it, step 3 the cell 3 behind that.
    MADE = [new(0, [1, 2]), new(1, [3]), new(2, [4])]

    def blamed(self, calls, *expected):
        """Behind these calls the cells of these numbers were last written so: (number, answer)."""
        given = told(*calls, *[blame(number) for number, answer in expected])[len(calls):]
        self.assertEqual(given, [[answer] for number, answer in expected])

    def test_made(self):
        self.blamed(self.MADE, (1, 1), (2, 2), (3, 3))

    def test_made_with_an_empty_text(self):
        self.blamed([new(0, []), new(0, [])], (1, 1), (2, 2))

    def test_written(self):
        self.blamed(self.MADE + [write(1, [])], (1, 4), (2, 2), (3, 3))

    def test_split(self):
        self.blamed(self.MADE + [split(1, 1)], (1, 4), (4, 4), (2, 2))

    def test_split_behind_its_last_byte(self):
        self.blamed(self.MADE + [split(1, 2)], (1, 1), (4, 4))

    def test_joined(self):
        self.blamed(self.MADE + [join(1)], (1, 4), (3, 3), (2, -1))

    def test_joined_with_an_empty_text(self):
        self.blamed([new(0, [1]), new(1, []), join(1)], (1, 1))

    def test_replaced(self):
        self.blamed(self.MADE + [replace([3], [5])], (1, 1), (2, 4), (3, 3))

    def test_moved_swapped_or_hidden_alone(self):
        self.blamed(self.MADE + [move(1, 3), swap(2, 3), hide(1, 1), hide(3, 1)], (1, 1), (2, 2), (3, 3))

    def test_dropped_and_brought_back_by_undo(self):
        self.blamed(self.MADE + [write(1, [9]), drop(1)], (1, -1))
        self.blamed(self.MADE + [write(1, [9]), drop(1), UNDO], (1, 4), (2, 2))

    def test_written_in_the_open_group(self):
        self.blamed(self.MADE + [BEGIN, write(1, [9])], (1, 4), (2, 2))
        self.blamed(self.MADE + [BEGIN, write(1, [9]), new(0, [])], (4, 4), (1, 4), (3, 3))
        self.blamed(self.MADE + [BEGIN, write(1, [9]), CANCEL], (1, 1))
        self.blamed(self.MADE + [BEGIN, write(1, [9]), write(2, []), END], (1, 4), (2, 4))

    def test_an_open_group_that_leaves_the_text_as_it_was(self):
        self.blamed(self.MADE + [BEGIN], (1, 1), (3, 3))
        self.blamed(self.MADE + [BEGIN, write(1, [9]), write(1, [1, 2]), hide(2, 1)], (1, 1), (2, 2))

    def test_a_group_that_left_the_text_as_it_was(self):
        self.blamed(self.MADE + [BEGIN, write(1, [9]), write(1, [1, 2]), END], (1, 1))

    def test_dropped_in_the_open_group(self):
        self.refused(self.MADE + [BEGIN, drop(1)], (blame(1), -1))

    def test_the_same_bytes_anew_after_others(self):
        self.blamed(self.MADE + [write(1, [9]), write(1, [1, 2])], (1, 5))

    def test_undone_steps_do_not_count(self):
        self.blamed(self.MADE + [write(1, [9]), write(1, [8]), UNDO], (1, 4))
        self.blamed(self.MADE + [write(1, [9]), write(1, [8]), UNDO, UNDO], (1, 1))
        self.blamed(self.MADE + [write(1, [9]), UNDO, BEGIN, write(1, [7])], (1, 4))
        self.blamed(self.MADE + [write(1, [9]), UNDO, BEGIN, hide(1, 1)], (1, 1))

    def test_behind_a_struck_step(self):
        self.blamed(self.MADE + [write(1, [9]), write(2, []), strike(3)], (1, 1), (2, 4))

    def test_no_such_cell(self):
        self.refused(TWO, *[(blame(number), -1) for number in NO_NUMBERS])
        self.refused([], (blame(1), -1))
        self.refused(TWO + [UNDO, UNDO], (blame(2), -1))


class Point23Find(Refusing):
    def test_cells_in_order_and_places_rising(self):
        calls = [new(0, [5, 6, 5]), new(0, [6]), new(1, [6, 5]), hide(3, 1)]
        self.assertEqual(told(*calls, find([5]), find([6]), find([6, 5]))[4:],
                         [[3, 1, 0, 1, 2, 3, 1], [3, 2, 0, 1, 1, 3, 0], [2, 1, 1, 3, 0]])

    def test_it_is_found_nowhere(self):
        self.assertEqual(told(find([1])), [[0]])
        self.assertEqual(told(*TWO, find([1]), find([8, 7]), find([255, 0, 0]))[3:], [[0], [0], [0]])

    def test_not_across_cells(self):
        self.assertEqual(last_told(new(0, [1]), new(1, [2]), find([1, 2])), [0])

    def test_places_that_overlap(self):
        self.assertEqual(last_told(new(0, [1] * 5), find([1, 1])), [2, 1, 0, 1, 2])
        self.assertEqual(last_told(new(0, [1, 2, 1, 2, 1, 2, 1]), find([1, 2, 1])), [2, 1, 0, 1, 4])
        self.assertEqual(last_told(new(0, [1, 1, 2]), find([1, 2])), [1, 1, 1])

    def test_the_whole_text(self):
        self.assertEqual(last_told(new(0, [1, 2, 3]), find([1, 2, 3])), [1, 1, 0])
        self.assertEqual(last_told(new(0, [9] * 200), find([9] * 200)), [1, 1, 0])

    def test_the_last_place(self):
        self.assertEqual(last_told(new(0, [0] * 199 + [4]), find([4])), [1, 1, 199])

    def test_the_most_places(self):
        given = last_told(*row_of_cells(12, [3] * 200), find([3]))
        self.assertEqual(given[0], 2400)
        self.assertEqual(given[1::2], [cell for cell in range(1, 13) for place in range(200)])
        self.assertEqual(given[2::2], list(range(200)) * 12)

    def test_a_list_longer_than_any_text(self):
        self.assertEqual(told(new(0, [1] * 200), find([1] * 201), find([1] * 400))[1:], [[0], [0]])

    def test_refusals(self):
        rows = ([256], [-1], [HUGE], [-HUGE], [7, 256], [0] * 399 + [-1], [-HUGE] * 400)
        self.refused(TWO, (find([]), -17), *[(find(row), -4) for row in rows])
        self.refused([], (find([]), -17), (find([256]), -4))

    def test_the_edits_of_an_open_group_are_in_it(self):
        calls = TWO + [BEGIN, write(1, [9, 9]), new(1, [9]), drop(2)]
        self.assertEqual(told(*calls, find([9]), find([255]), find([7]), CANCEL, find([9]), find([7]))[7:],
                         [[3, 1, 0, 1, 1, 3, 0], [0], [0], [3], [0], [1, 1, 0]])

    def test_what_is_undone_is_not_found(self):
        self.assertEqual(told(*TWO, find([255]), UNDO, UNDO, find([255]), REDO, find([255]))[3:],
                         [[1, 2, 1], [2], [1], [0], [1], [1, 2, 1]])


class TellingChangesNothing(unittest.TestCase):
    def test_all_is_held_as_it_was(self):
        for calls in (TWO, TWO + [UNDO], TWO + [BEGIN, drop(1)], TWO + [UNDO, BEGIN, write(1, [3])]):
            pad = pad_after(*calls)
            before = held(pad)
            say(pad, WHOLE, text(1), text(2), at(0), at(3), STATE, step(0), step(2), changed(0, 3), blame(1), find([7]))
            self.assertEqual(held(pad), before)


if __name__ == "__main__":
    unittest.main()
