"""The nine edits on a document, and when each can't be done; where a text is found."""

import unittest

from cellpad.cells import places_found, text_replaced
from cellpad.edits import do_edit, do_edits

THREE = ((1, 0, (10, 11)), (2, 1, (20,)), (3, 0, ()))
TWELVE = tuple((number, 0, (number,)) for number in range(1, 13))


class Edits(unittest.TestCase):
    def makes(self, document, edit, expected):
        before = tuple(document)
        self.assertEqual(do_edit(document, edit), expected)
        self.assertEqual(document, before)

    def cannot(self, document, *edits):
        for edit in edits:
            self.assertIsNone(do_edit(document, edit), edit)

    def test_make(self):
        self.makes((), (0, 5, 0, (1,)), ((5, 0, (1,)),))
        self.makes(THREE, (0, 5, 0, (1,)), ((5, 0, (1,)),) + THREE)
        self.makes(THREE, (0, 5, 2, ()), THREE[:2] + ((5, 0, ()),) + THREE[2:])
        self.makes(THREE, (0, 5, 3, ()), THREE + ((5, 0, ()),))
        self.makes(TWELVE[1:], (0, 1, 0, (1,)), TWELVE)
        self.cannot(THREE, (0, 2, 0, ()), (0, 5, 4, ()), (0, 5, 5, ()), (0, 5, -1, ()))
        self.cannot(TWELVE, (0, 13, 0, ()))

    def test_write(self):
        self.makes(THREE, (1, 2, (8, 9)), (THREE[0], (2, 1, (8, 9)), THREE[2]))
        self.cannot(THREE, (1, 4, (8,)), (1, 0, (8,)))

    def test_move(self):
        self.makes(THREE, (2, 3, 0), (THREE[2], THREE[0], THREE[1]))
        self.makes(THREE, (2, 1, 3), (THREE[1], THREE[2], THREE[0]))
        self.makes(THREE, (2, 1, 2), (THREE[1], THREE[0], THREE[2]))
        self.makes(THREE, (2, 3, 1), (THREE[0], THREE[2], THREE[1]))
        self.makes(THREE, (2, 2, 1), THREE)
        self.cannot(THREE, (2, 4, 0), (2, 0, 1), (2, 1, 4), (2, 1, 1), (2, 1, -1))

    def test_drop(self):
        self.makes(THREE, (3, 2), (THREE[0], THREE[2]))
        self.makes(THREE, (3, 3), THREE[:2])
        self.makes(THREE[:1], (3, 1), ())
        self.cannot(THREE, (3, 4), (3, 0))

    def test_hide(self):
        self.makes(THREE, (4, 1, 1), ((1, 1, (10, 11)),) + THREE[1:])
        self.makes(THREE, (4, 2, 0), (THREE[0], (2, 0, (20,)), THREE[2]))
        self.makes(THREE, (4, 2, 1), THREE)
        self.cannot(THREE, (4, 4, 1))

    def test_split(self):
        self.makes(THREE, (5, 1, 1, 7), ((1, 0, (10,)), (7, 0, (11,))) + THREE[1:])
        self.makes(THREE, (5, 1, 0, 7), ((1, 0, ()), (7, 0, (10, 11))) + THREE[1:])
        self.makes(THREE, (5, 2, 1, 7), (THREE[0], (2, 1, (20,)), (7, 1, ()), THREE[2]))
        self.makes(THREE, (5, 3, 0, 7), THREE + ((7, 0, ()),))
        self.cannot(THREE, (5, 4, 0, 7), (5, 1, 3, 7), (5, 1, 1, 3), (5, 1, 1, 1))
        self.cannot(TWELVE, (5, 1, 0, 13))

    def test_join(self):
        self.makes(THREE, (6, 1), ((1, 0, (10, 11, 20)), THREE[2]))
        self.makes(THREE, (6, 2), (THREE[0], (2, 1, (20,))))
        self.cannot(THREE, (6, 4), (6, 3))
        self.makes(((1, 0, (5,) * 150), (2, 0, (6,) * 50)), (6, 1), ((1, 0, (5,) * 150 + (6,) * 50),))
        self.cannot(((1, 0, (5,) * 150), (2, 0, (6,) * 51)), (6, 1))

    def test_swap(self):
        self.makes(THREE, (7, 1, 3), (THREE[2], THREE[1], THREE[0]))
        self.makes(THREE, (7, 2, 1), (THREE[1], THREE[0], THREE[2]))
        self.makes(THREE, (7, 2, 2), THREE)
        self.cannot(THREE, (7, 1, 4), (7, 4, 1), (7, 4, 4))

    def test_replace(self):
        document = ((1, 0, (1, 2, 1)), (2, 1, (2,)), (3, 0, (1,)))
        self.makes(document, (8, (1,), (4, 5)), ((1, 0, (4, 5, 2, 4, 5)), (2, 1, (2,)), (3, 0, (4, 5))))
        self.makes(document, (8, (1,), ()), ((1, 0, (2,)), (2, 1, (2,)), (3, 0, ())))
        self.makes(document, (8, (9,), (1,)), document)
        self.makes((), (8, (9,), (1,)), ())
        self.makes(((1, 0, (1,) * 100),), (8, (1,), (1, 1)), ((1, 0, (1,) * 200),))
        self.cannot(((1, 0, ()), (2, 0, (1,) * 101)), (8, (1,), (1, 1)))

    def test_a_list_of_edits_is_done_one_behind_the_other(self):
        edits = [(0, 1, 0, (1, 2)), (5, 1, 1, 2), (7, 1, 2), (3, 1)]
        self.assertEqual(do_edits((), edits), ((2, 0, (2,)),))
        self.assertEqual(do_edits(THREE, []), THREE)

    def test_a_list_of_edits_cannot_be_done_if_one_cannot(self):
        self.assertIsNone(do_edits((), [(0, 1, 0, ()), (3, 1), (1, 1, (5,))]))
        self.assertIsNone(do_edits((), [(3, 1), (0, 1, 0, ())]))


class Found(unittest.TestCase):
    def test_places(self):
        self.assertEqual(places_found((1, 1, 1, 1, 1), (1, 1)), [0, 2])
        self.assertEqual(places_found((1, 2, 1, 2, 1), (1, 2, 1)), [0])
        self.assertEqual(places_found((1, 1, 2), (1, 2)), [1])
        self.assertEqual(places_found((5, 6, 7), (7,)), [2])
        self.assertEqual(places_found((5, 6, 7), (5, 6, 7)), [0])
        self.assertEqual(places_found((5, 6, 7), (5, 6, 7, 8)), [])
        self.assertEqual(places_found((5, 6, 7), (7, 8)), [])
        self.assertEqual(places_found((), (1,)), [])

    def test_what_was_put_in_is_not_looked_through(self):
        self.assertEqual(text_replaced((1, 1, 2, 2), (1, 2), ()), (1, 2))
        self.assertEqual(text_replaced((1, 2), (1,), (2, 1, 1)), (2, 1, 1, 2))
        self.assertEqual(text_replaced((1, 1, 1, 1, 1), (1, 1), (9,)), (9, 9, 1))


if __name__ == "__main__":
    unittest.main()
