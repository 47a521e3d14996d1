"""Points 11 to 13: groups; and how a step is added."""

import unittest

from cellpad.history import History

from helper import BEGIN, CANCEL, END, ask, drop, held, hide, last, move, new, pad_after, row_of_cells, say, split
from helper import to, write

TEN = [write(1, [k]) for k in range(10)]


class Point11Begin(unittest.TestCase):
    def test_an_empty_group_is_open(self):
        self.assertEqual(ask(BEGIN, END), [0, 0])
        self.assertEqual(pad_after(BEGIN).group, [])

    def test_a_group_is_open_already(self):
        pad = pad_after(new(0, []), BEGIN, write(1, [5]))
        before = held(pad)
        self.assertEqual(say(pad, BEGIN), [-11])
        self.assertEqual(held(pad), before)
        self.assertEqual(ask(BEGIN, BEGIN, new(0, []), BEGIN, END, BEGIN), [0, -11, 1, -11, 1, 0])

    def test_a_full_group_is_open(self):
        self.assertEqual(last(new(0, [99]), BEGIN, *TEN, BEGIN), -11)


class Point12End(unittest.TestCase):
    def test_no_group_is_open(self):
        self.assertEqual(ask(END, new(0, []), END, BEGIN, END, END), [-12, 1, -12, 0, 0, -12])
        pad = pad_after(new(0, []))
        before = held(pad)
        say(pad, END)
        self.assertEqual(held(pad), before)

    def test_how_many_edits_it_had(self):
        for count in range(11):
            self.assertEqual(last(new(0, [99]), BEGIN, *TEN[:count], END), count)

    def test_its_edits_are_one_step(self):
        pad = pad_after(new(0, [99]), BEGIN, *TEN, END)
        self.assertEqual(len(pad.history.steps), 2)
        self.assertEqual(pad.history.steps[1], tuple((1, 1, (k,)) for k in range(10)))
        self.assertEqual(pad.history.documents, [(), ((1, 0, (99,)),), ((1, 0, (9,)),)])
        self.assertEqual(pad.history.position, 2)
        self.assertIsNone(pad.group)

    def test_its_edits_stay_done(self):
        self.assertEqual(ask(new(0, []), BEGIN, write(1, [5]), END, write(1, [5])), [1, 0, 0, 1, -7])

    def test_an_edit_behind_it_is_a_step_of_its_own(self):
        pad = pad_after(BEGIN, new(0, []), END, write(1, [5]))
        self.assertEqual(pad.history.steps, [((0, 1, 0, ()),), ((1, 1, (5,)),)])

    def test_an_empty_group_adds_nothing_and_the_undone_steps_stay(self):
        pad = pad_after(*row_of_cells(3), to(1))
        before = held(pad)
        self.assertEqual(say(pad, BEGIN, END), [0, 0])
        self.assertEqual(held(pad), before)

    def test_a_group_with_edits_ends_the_undone_steps_when_it_ends(self):
        pad = pad_after(*row_of_cells(3), to(1))
        say(pad, BEGIN, write(1, [5]))
        self.assertEqual(len(pad.history.steps), 3)
        self.assertEqual(say(pad, END), [1])
        self.assertEqual(pad.history.steps, [((0, 1, 0, ()),), ((1, 1, (5,)),)])


class Point13Cancel(unittest.TestCase):
    def test_no_group_is_open(self):
        self.assertEqual(ask(CANCEL, new(0, []), CANCEL, BEGIN, CANCEL, CANCEL), [-12, 1, -12, 0, 0, -12])
        pad = pad_after(new(0, []))
        before = held(pad)
        say(pad, CANCEL)
        self.assertEqual(held(pad), before)

    def test_how_many_edits_it_had(self):
        for count in range(11):
            self.assertEqual(last(new(0, [99]), BEGIN, *TEN[:count], CANCEL), count)

    def test_its_edits_were_never_done(self):
        pad = pad_after(*row_of_cells(3))
        before = held(pad)
        self.assertEqual(say(pad, BEGIN, write(1, [5]), drop(2), hide(3, 1), move(3, 0), CANCEL), [0] * 5 + [4])
        self.assertEqual(held(pad), before)
        self.assertEqual(ask(new(0, [1]), BEGIN, write(1, [5]), CANCEL, write(1, [1]), write(1, [5])),
                         [1, 0, 0, 1, -7, 0])

    def test_the_next_number_stays_as_it_is(self):
        self.assertEqual(ask(BEGIN, new(0, [1]), split(1, 0), CANCEL, new(0, []), drop(1)), [0, 1, 2, 2, 3, -1])

    def test_the_undone_steps_stay(self):
        pad = pad_after(*row_of_cells(3), to(1))
        before = held(pad)
        self.assertEqual(say(pad, BEGIN, write(1, [5]), CANCEL), [0, 0, 1])
        self.assertEqual(held(pad), before)

    def test_what_an_earlier_group_did_stays(self):
        self.assertEqual(
            ask(BEGIN, new(0, [1]), END, BEGIN, drop(1), CANCEL, write(1, [1])), [0, 1, 1, 0, 0, 1, -7],
        )


class Adding(unittest.TestCase):
    def test_at_the_beginning(self):
        self.assertEqual(held(pad_after()), ([], [()], 0, 0, (), None, 1))

    def test_there_are_no_undone_steps_any_more(self):
        pad = pad_after(*row_of_cells(4), to(2))
        say(pad, write(1, [5]))
        self.assertEqual(len(pad.history.steps), 3)
        self.assertEqual(pad.history.position, 3)
        self.assertEqual(pad.history.documents[3], ((1, 0, (5,)), (2, 0, ())))
        self.assertEqual(pad.next_number, 5)

    def test_twenty_steps_are_remembered(self):
        pad = pad_after(new(0, []), *[write(1, [k]) for k in range(19)])
        self.assertEqual((len(pad.history.steps), pad.history.forgotten), (20, 0))
        self.assertEqual(pad.history.documents[0], ())

    def test_the_first_step_is_forgotten_and_in_the_base(self):
        pad = pad_after(new(0, []), *[write(1, [k]) for k in range(20)])
        history = pad.history
        self.assertEqual((len(history.steps), history.position, history.forgotten), (20, 20, 1))
        self.assertEqual(history.documents[0], ((1, 0, ()),))
        self.assertEqual(history.documents[1], ((1, 0, (0,)),))
        self.assertEqual(history.steps[0], ((1, 1, (0,)),))
        say(pad, write(1, [99]), write(1, [98]))
        self.assertEqual((len(history.steps), history.position, history.forgotten), (20, 20, 3))
        self.assertEqual(history.documents[0], ((1, 0, (1,)),))
        self.assertEqual(history.present(), ((1, 0, (98,)),))

    def test_a_group_is_forgotten_whole(self):
        pad = pad_after(BEGIN, new(0, []), new(0, []), END, *[write(1, [k]) for k in range(20)])
        self.assertEqual(pad.history.forgotten, 1)
        self.assertEqual(pad.history.documents[0], ((2, 0, ()), (1, 0, ())))

    def test_a_cancel_behind_forgotten_steps(self):
        writes = [write(1, [k]) for k in range(30)]
        self.assertEqual(last(new(0, []), *writes, BEGIN, drop(1), CANCEL, write(1, [29])), -7)

    def test_two_histories_share_nothing(self):
        first = History()
        first.add_step(((0, 1, 0, ()),), ((1, 0, ()),))
        self.assertEqual(History().documents, [()])


if __name__ == "__main__":
    unittest.main()
