"""Points 1 to 10: the calls that do an edit, one class a point."""

import unittest

from helper import BEGIN, CANCEL, END, HUGE, Refusing, ask, drop, hide, join, last, move, new, numbers_in, numbers_used
from helper import pad_after, replace, row_of_cells, split, swap, write

NO_BYTES = ([256], [-1], [HUGE], [-HUGE], [5, 5, 256], [-1] * 400, [0] * 200 + [256])
NO_NUMBERS = (0, -1, 4, 99, 100, HUGE, -HUGE)

# Twelve cells of three bytes, 88 to 99, and no number left.
ALL_FULL = numbers_used(87) + [new(0, [1, 2, 3])] + [new(after, [1, 2, 3]) for after in range(88, 99)]


class Point1(Refusing):
    GOOD = [
        new(0, []), write(1, [5]), move(1, 2), drop(1), hide(1, 1), split(1, 1), join(1), swap(1, 2),
        replace([1], [2]),
    ]
    BAD = [
        new(50, [256] * 400), write(50, [256]), move(50, 50), drop(50), hide(50, 2), split(50, -1), join(50),
        swap(50, 50), replace([256], []), write(1, [1, 2, 3]), replace([], []), join(2),
    ]
    TWO = [new(0, [1, 2, 3]), new(1, [4])]

    def test_a_full_group_refuses_before_anything_else(self):
        ten = [write(1, [k]) for k in range(9)] + [write(1, [1, 2, 3])]
        calls = self.TWO + [BEGIN] + ten
        self.refused(calls, *[(call, -10) for call in self.GOOD + self.BAD])

    def test_a_full_group_refuses_where_all_is_used_up(self):
        ten = [write(99, [k]) for k in range(10)]
        self.refused(ALL_FULL + [BEGIN] + ten, (new(0, []), -10), (new(0, [1] * 201), -10), (split(99, 0), -10))

    def test_the_tenth_edit_is_not_refused(self):
        nine = [write(1, [k]) for k in range(9)]
        self.assertEqual(ask(*self.TWO, BEGIN, *nine, write(1, [1, 2, 3]), END)[-2:], [0, 10])
        for call in self.GOOD:
            given = ask(*self.TWO, BEGIN, *nine[:8], write(1, [1, 2, 3]), call, END)
            self.assertGreaterEqual(given[-2], 0)
            self.assertEqual(given[-1], 10)

    def test_a_full_group_that_is_closed_refuses_nothing(self):
        ten = [write(1, [k]) for k in range(10)]
        self.assertEqual(last(*self.TWO, BEGIN, *ten, END, write(1, [50])), 0)
        self.assertEqual(last(*self.TWO, BEGIN, *ten, CANCEL, write(1, [50])), 0)
        self.assertEqual(last(*self.TWO, BEGIN, *ten, END, BEGIN, write(1, [50])), 0)

    def test_refused_edits_are_not_in_the_group(self):
        given = ask(*self.TWO, BEGIN, write(1, [1, 2, 3]), drop(50), write(1, [7]), write(1, [7]), END)
        self.assertEqual(given[2:], [0, -7, -1, 0, -7, 1])

    def test_nothing_would_change(self):
        self.refused(
            self.TWO, (write(1, [1, 2, 3]), -7), (move(1, 0), -7), (move(2, 1), -7), (hide(1, 0), -7),
            (swap(1, 1), -7), (swap(2, 2), -7), (replace([9], [8]), -7), (replace([1], [1]), -7),
            (replace([2, 1], []), -7),
        )

    def test_nothing_would_change_in_a_group(self):
        self.refused(
            self.TWO + [BEGIN, write(1, [5]), hide(2, 1), move(2, 0)], (write(1, [5]), -7), (hide(2, 1), -7),
            (move(2, 0), -7), (move(1, 2), -7),
        )

    def test_without_a_group_each_edit_is_a_step(self):
        pad = pad_after(*self.TWO, write(1, [5]))
        self.assertEqual(pad.history.steps, [((0, 1, 0, (1, 2, 3)),), ((0, 2, 1, (4,)),), ((1, 1, (5,)),)])
        self.assertEqual(pad.history.position, 3)
        self.assertEqual(pad.history.present(), pad.document)

    def test_in_a_group_edits_are_put_at_its_end(self):
        pad = pad_after(*self.TWO, BEGIN, write(1, [5]), drop(2))
        self.assertEqual(pad.group, [(1, 1, (5,)), (3, 2)])
        self.assertEqual(len(pad.history.steps), 2)
        self.assertEqual(pad.document, ((1, 0, (5,)),))

    def test_the_edits_that_are_kept(self):
        calls = self.TWO + [
            BEGIN, move(1, 2), hide(1, 1), split(1, 2), join(2), swap(2, 3), replace([4], []), drop(3), END,
        ]
        self.assertEqual(pad_after(*calls).history.steps[2], (
            (2, 1, 2), (4, 1, 1), (5, 1, 2, 3), (6, 2), (7, 2, 3), (8, (4,), ()), (3, 3),
        ))

    def test_the_wrong_number_is_refused_however_great(self):
        for number in NO_NUMBERS:
            self.refused(
                [new(0, [1]), new(0, [2]), new(0, [3])], (write(number, []), -1), (move(number, 0), -1),
                (drop(number), -1), (hide(number, 1), -1), (split(number, 0), -1), (join(number), -1),
                (swap(number, 1), -1), (swap(1, number), -1),
            )

    def test_the_number_of_a_cell_that_is_gone(self):
        self.refused(
            [new(0, [1]), new(0, [2]), drop(1)], (write(1, []), -1), (drop(1), -1), (new(1, []), -2),
            (move(2, 1), -2), (swap(2, 1), -1), (hide(1, 1), -1), (split(1, 0), -1), (join(1), -1),
        )


class Point2New(Refusing):
    def test_the_new_cell(self):
        self.assertEqual(ask(new(0, [1, 2]), new(0, []), new(1, [7])), [1, 2, 3])
        pad = pad_after(new(0, [1, 2]), new(0, []), new(1, [0, 255]), new(2, [9]))
        self.assertEqual(pad.document, ((2, 0, ()), (4, 0, (9,)), (1, 0, (1, 2)), (3, 0, (0, 255))))
        self.assertEqual(pad.next_number, 5)

    def test_after(self):
        self.refused([new(0, [])], *[(new(after, []), -2) for after in NO_NUMBERS + (2,) if after != 0])

    def test_no_byte(self):
        self.refused([new(0, [])], *[(new(1, text), -4) for text in NO_BYTES])

    def test_length(self):
        self.assertEqual(ask(new(0, []), new(0, [255] * 200)), [1, 2])
        self.refused([new(0, [])], (new(0, [1] * 201), -5), (new(0, [1] * 400), -5))

    def test_twelve_cells(self):
        self.assertEqual(ask(*row_of_cells(12), new(0, [])), list(range(1, 13)) + [-6])
        self.assertEqual(last(*row_of_cells(12), drop(5), new(0, [])), 13)
        self.refused(row_of_cells(12), (new(0, []), -6), (new(12, [1] * 200), -6))

    def test_the_numbers_are_used_up(self):
        self.assertEqual(ask(*numbers_used(98), new(0, []), new(0, []), drop(99), new(0, []))[-4:],
                         [99, -16, 0, -16])
        self.refused(numbers_used(99), (new(0, []), -16))

    def test_order(self):
        self.refused(
            ALL_FULL, (new(1, [256] * 201), -2), (new(88, [256] * 201), -4), (new(88, [1] * 201), -5),
            (new(88, [1]), -6),
        )
        self.refused(
            ALL_FULL + [drop(90)], (new(90, [256]), -2), (new(88, [256] * 201), -4), (new(0, [1] * 201), -5),
            (new(0, []), -16),
        )

    def test_a_refusal_uses_no_number(self):
        self.assertEqual(
            ask(new(5, []), new(0, [256]), new(0, [1] * 201), new(0, []), new(7, []), new(0, [])),
            [-2, -4, -5, 1, -2, 2],
        )
        self.assertEqual(last(*row_of_cells(12), new(0, []), drop(1), new(0, [])), 13)

    def test_a_number_is_not_used_again(self):
        self.assertEqual(ask(new(0, []), drop(1), new(0, [])), [1, 0, 2])


class Point3Write(Refusing):
    def test_the_text_is_the_one_told(self):
        calls = [new(0, [1]), new(1, [2]), hide(1, 1)]
        self.assertEqual(ask(*calls, write(1, [5, 6]))[3:], [0])
        self.assertEqual(pad_after(*calls, write(1, [5, 6])).document, ((1, 1, (5, 6)), (2, 0, (2,))))
        self.assertEqual(pad_after(*calls, write(2, [])).document, ((1, 1, (1,)), (2, 0, ())))

    def test_refusals(self):
        self.refused([new(0, [])], (write(2, [1]), -1), (write(1, []), -7), (write(1, [1] * 201), -5),
                     (write(1, [1] * 400), -5), *[(write(1, text), -4) for text in NO_BYTES])
        self.assertEqual(ask(new(0, []), write(1, [0] * 200), write(1, [0] * 200)), [1, 0, -7])

    def test_order(self):
        self.refused([new(0, [])], (write(2, [256] * 201), -1), (write(2, [1] * 201), -1), (write(1, [256] * 201), -4))


class Point4Move(Refusing):
    def test_the_cell_is_put_there(self):
        calls = row_of_cells(4)
        for call, row in ((move(3, 0), [3, 1, 2, 4]), (move(1, 4), [2, 3, 4, 1]), (move(2, 3), [1, 3, 2, 4]),
                          (move(4, 1), [1, 4, 2, 3]), (move(1, 2), [2, 1, 3, 4])):
            self.assertEqual(last(*calls, call), 0)
            self.assertEqual(numbers_in(pad_after(*calls, call)), row)

    def test_text_and_mark_go_along(self):
        pad = pad_after(new(0, [1]), new(0, [2]), hide(1, 1), move(1, 0))
        self.assertEqual(pad.document, ((1, 1, (1,)), (2, 0, (2,))))

    def test_refusals(self):
        calls = row_of_cells(3)
        self.refused(calls, (move(4, 0), -1), (move(1, 1), -2), (move(3, 3), -2),
                     *[(move(1, after), -2) for after in NO_NUMBERS if after != 0])
        self.refused(calls, (move(1, 0), -7), (move(2, 1), -7), (move(3, 2), -7))

    def test_order(self):
        self.refused(row_of_cells(1), (move(4, 4), -1), (move(4, 7), -1), (move(1, 1), -2), (move(0, 0), -1))


class Point5Drop(Refusing):
    def test_the_cell_is_gone(self):
        self.assertEqual(ask(*row_of_cells(3), drop(2), drop(3), drop(1))[3:], [0, 0, 0])
        self.assertEqual(numbers_in(pad_after(*row_of_cells(3), drop(2))), [1, 3])

    def test_refusals(self):
        self.refused([], (drop(1), -1))
        self.refused(row_of_cells(1) + [drop(1)], (drop(1), -1), (drop(0), -1))


class Point6Hide(Refusing):
    def test_the_mark_is_the_one_told(self):
        self.assertEqual(ask(new(0, [1]), hide(1, 1), hide(1, 0)), [1, 0, 0])
        self.assertEqual(pad_after(new(0, [1]), new(0, []), hide(1, 1)).document, ((2, 0, ()), (1, 1, (1,))))
        self.assertEqual(pad_after(new(0, [1]), hide(1, 1), hide(1, 0)).document, ((1, 0, (1,)),))

    def test_refusals(self):
        self.refused(row_of_cells(1), (hide(2, 1), -1), (hide(1, 0), -7),
                     *[(hide(1, mark), -18) for mark in (2, -1, HUGE, -HUGE)])
        self.refused(row_of_cells(1) + [hide(1, 1)], (hide(1, 1), -7))

    def test_order(self):
        self.refused(row_of_cells(1), (hide(2, 2), -1), (hide(0, -1), -1))


class Point7Split(Refusing):
    def test_the_new_cell(self):
        calls = [new(0, [1, 2, 3]), new(1, [9])]
        self.assertEqual(last(*calls, split(1, 1)), 3)
        pad = pad_after(*calls, split(1, 1))
        self.assertEqual(pad.document, ((1, 0, (1,)), (3, 0, (2, 3)), (2, 0, (9,))))
        self.assertEqual(pad.next_number, 4)

    def test_the_mark_goes_along(self):
        pad = pad_after(new(0, [1, 2]), hide(1, 1), split(1, 1))
        self.assertEqual(pad.document, ((1, 1, (1,)), (2, 1, (2,))))

    def test_the_outermost_places(self):
        self.assertEqual(pad_after(new(0, [1, 2]), split(1, 0)).document, ((1, 0, ()), (2, 0, (1, 2))))
        self.assertEqual(pad_after(new(0, [1, 2]), split(1, 2)).document, ((1, 0, (1, 2)), (2, 0, ())))
        self.assertEqual(ask(new(0, []), split(1, 0)), [1, 2])
        self.assertEqual(ask(new(0, [7] * 200), split(1, 200), split(1, 201), split(1, 0)), [1, 2, -8, 3])

    def test_refusals(self):
        self.refused([new(0, [1, 2])], (split(2, 0), -1),
                     *[(split(1, place), -8) for place in (-1, 3, 200, HUGE, -HUGE)])
        self.refused(row_of_cells(12), (split(1, 0), -6))
        self.assertEqual(ask(*numbers_used(97), new(0, [1]), split(98, 0), split(98, 0))[-3:], [98, 99, -16])

    def test_order(self):
        self.refused(ALL_FULL, (split(1, -1), -1), (split(88, 4), -8), (split(88, -1), -8), (split(88, 3), -6))
        self.refused(ALL_FULL + [drop(90)], (split(90, 0), -1), (split(88, 4), -8), (split(88, 3), -16))

    def test_a_refusal_uses_no_number(self):
        self.assertEqual(ask(new(0, [1]), split(2, 0), split(1, 2), split(1, 1), split(1, 1), new(0, [])),
                         [1, -1, -8, 2, 3, 4])


class Point8Join(Refusing):
    def test_the_cell_behind_is_gone(self):
        calls = [new(0, [1]), new(0, [2]), new(0, [3])]
        self.assertEqual(ask(*calls, join(3), join(3))[3:], [2, 1])
        self.assertEqual(pad_after(*calls, join(3)).document, ((3, 0, (3, 2)), (1, 0, (1,))))
        self.assertEqual(pad_after(*calls, join(2)).document, ((3, 0, (3,)), (2, 0, (2, 1))))

    def test_the_mark_stays(self):
        calls = [new(0, [1]), new(1, [2])]
        self.assertEqual(pad_after(*calls, hide(1, 1), join(1)).document, ((1, 1, (1, 2)),))
        self.assertEqual(pad_after(*calls, hide(2, 1), join(1)).document, ((1, 0, (1, 2)),))

    def test_empty_texts(self):
        self.assertEqual(last(new(0, []), new(1, []), join(1)), 2)

    def test_just_200_bytes(self):
        self.assertEqual(last(new(0, [1] * 120), new(1, [2] * 80), join(1)), 2)
        self.refused([new(0, [1] * 120), new(1, [2] * 81)], (join(1), -5))
        self.refused([new(0, [1] * 200), new(1, [2] * 200)], (join(1), -5))
        self.assertEqual(last(new(0, [1] * 200), new(1, []), join(1)), 2)

    def test_only_the_two_texts_count(self):
        self.assertEqual(last(new(0, [1] * 150), new(1, [2] * 100), new(2, [3] * 50), join(2)), 3)
        self.refused([new(0, [1] * 10), new(1, [2] * 150), new(2, [3] * 51)], (join(2), -5))

    def test_refusals(self):
        self.refused(row_of_cells(2), (join(3), -1), (join(2), -9))
        self.refused([new(0, [1] * 200)], (join(1), -9))
        self.refused([], (join(1), -1))


class Point9Swap(Refusing):
    def test_the_two_stand_in_each_others_place(self):
        calls = row_of_cells(4)
        for call, row in ((swap(1, 4), [4, 2, 3, 1]), (swap(4, 1), [4, 2, 3, 1]), (swap(2, 3), [1, 3, 2, 4])):
            self.assertEqual(last(*calls, call), 0)
            self.assertEqual(numbers_in(pad_after(*calls, call)), row)

    def test_text_and_mark_go_along(self):
        pad = pad_after(new(0, [1]), new(1, [2]), hide(1, 1), swap(1, 2))
        self.assertEqual(pad.document, ((2, 0, (2,)), (1, 1, (1,))))

    def test_refusals(self):
        self.refused(row_of_cells(2), (swap(1, 3), -1), (swap(3, 1), -1), (swap(3, 3), -1), (swap(0, 0), -1),
                     (swap(2, 2), -7))


class Point10Replace(Refusing):
    def test_in_each_cell(self):
        calls = [new(0, [1, 2, 1]), new(1, [2, 2]), new(2, [1, 1]), hide(3, 1)]
        self.assertEqual(last(*calls, replace([1], [5])), 4)
        self.assertEqual(pad_after(*calls, replace([1], [5, 6])).document,
                         ((1, 0, (5, 6, 2, 5, 6)), (2, 0, (2, 2)), (3, 1, (5, 6, 5, 6))))

    def test_x_is_not_found_across_cells(self):
        self.refused([new(0, [1]), new(1, [2])], (replace([1, 2], [3]), -7))

    def test_x_overlaps_itself(self):
        calls = [new(0, [1] * 5)]
        self.assertEqual(last(*calls, replace([1, 1], [9])), 2)
        self.assertEqual(pad_after(*calls, replace([1, 1], [9])).document, ((1, 0, (9, 9, 1)),))
        self.assertEqual(ask(new(0, [1, 2, 1, 2, 1]), replace([1, 2, 1], [7]), write(1, [7, 2, 1])), [1, 1, -7])

    def test_y_is_empty(self):
        self.assertEqual(ask(new(0, [1, 2, 1, 2]), replace([1], []), write(1, [2, 2])), [1, 2, -7])
        self.assertEqual(ask(new(0, [1, 1, 2, 2]), replace([1, 2], []), write(1, [1, 2])), [1, 1, -7])
        self.assertEqual(ask(new(0, [1, 1]), replace([1], []), write(1, [])), [1, 2, -7])

    def test_y_holds_x(self):
        self.assertEqual(ask(new(0, [1, 1]), replace([1], [1, 1]), write(1, [1] * 4)), [1, 2, -7])

    def test_the_most_places(self):
        calls = [new(0, [3] * 200) for number in range(12)]
        self.assertEqual(last(*calls, replace([3], [4])), 2400)
        self.assertEqual(last(*calls, replace([3] * 200, [4] * 200)), 12)

    def test_no_byte(self):
        for row in NO_BYTES:
            self.refused([new(0, [1])], (replace(row, [1]), -4), (replace([1], row), -4))

    def test_length(self):
        self.refused([new(0, [1])], (replace([1] * 201, [1]), -5), (replace([2], [1] * 201), -5),
                     (replace([1] * 400, [1] * 400), -5), (replace([1] * 200, [2] * 200), -7))
        self.assertEqual(last(new(0, [1]), replace([1], [2] * 200)), 1)

    def test_x_is_empty(self):
        self.refused([new(0, [1])], (replace([], []), -17), (replace([], [1]), -17))
        self.refused([], (replace([], []), -17), (replace([1], []), -7))

    def test_a_text_would_be_too_long(self):
        self.assertEqual(last(new(0, [1] * 100), replace([1], [1, 1])), 100)
        self.refused([new(0, [1] * 101)], (replace([1], [1, 1]), -5), (replace([1], [2] * 200), -5))
        self.refused([new(0, [1]), new(1, [2, 2]), new(0, [1])], (replace([2], [3] * 101), -5))
        self.assertEqual(last(new(0, [1] * 199 + [2]), replace([2], [3])), 1)
        self.refused([new(0, [1] * 199 + [2])], (replace([2], [3, 3]), -5))

    def test_order(self):
        self.refused(
            [new(0, [1] * 200)], (replace([1] * 201, [256]), -4), (replace([256], [1] * 201), -4),
            (replace([], [256]), -4), (replace([], [-1] * 400), -4), (replace([], [1] * 201), -5),
            (replace([], [1] * 200), -17), (replace([1], [1, 1]), -5),
        )


if __name__ == "__main__":
    unittest.main()
