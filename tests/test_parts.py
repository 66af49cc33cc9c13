"""Promise 5: PARTS, and what whole numbers are (promise 2)."""

import inspect
import unittest

from farfiles.errors import FarError, NoParts, NoPiece, NoPlace
from farfiles.parts import cells, cut, is_parts, length, put

PIECES = {1: (10, 11, 12, 13, 14), 2: (20, 21, 22), 7: (70,)}

NOT_PARTS = (
    None, True, False, 0, 7, "", "parts", b"ab", [], {}, [(1, 0, 1)],
    (1, 0, 1), ((1, 0),), ((1, 0, 1, 1),), ((),), ([1, 0, 1],), ("abc",), (None,), (7,),
    ((0, 0, 1),), ((-1, 0, 1),), ((1, -1, 1),), ((1, 0, 0),), ((1, 0, -3),),
    ((True, 0, 1),), ((1, False, 1),), ((1, 0, True),),
    (("1", 0, 1),), ((1, "0", 1),), ((1, 0, "1"),), ((None, 0, 1),), ((1, None, 1),),
    ((1, 0, None),), (((1,), 0, 1),), ((1, [0], 1),), ((1, 0, {}),),
    ((1, 0, 1), (1, 1)), ((1, 0, 1), None), ((1, 0, 1), [2, 0, 1]), ((2, 0, 1), (0, 0, 1)),
)

GOOD_PARTS = (
    (), ((1, 0, 1),), ((1, 4, 1),), ((1, 0, 5), (2, 0, 3)), ((2, 1, 1), (2, 0, 1), (2, 1, 1)),
    ((1, 0, 2), (1, 2, 2)), ((10**59, 10**59, 10**59),), ((7, 0, 1),) * 1200,
)


def all_cells(parts):
    return [(piece, at) for piece, first, many in parts for at in range(first, first + many)]


def joined(flat):
    """The parts of these (PIECE, CELL), one at a time."""
    parts = []
    for piece, at in flat:
        if parts and parts[-1][0] == piece and parts[-1][1] + parts[-1][2] == at:
            parts[-1] = (piece, parts[-1][1], parts[-1][2] + 1)
        else:
            parts.append((piece, at, 1))
    return tuple(parts)


SOME = (
    (), ((1, 0, 5),), ((1, 0, 2), (1, 2, 3)), ((1, 3, 2), (2, 0, 3), (7, 0, 1)),
    ((2, 0, 1), (2, 1, 1), (2, 2, 1)), ((2, 2, 1), (2, 0, 2)), ((7, 0, 1),),
    ((1, 0, 1), (2, 0, 1), (1, 1, 1)),
)


class IsPartsTest(unittest.TestCase):
    def test_what_are_parts(self):
        for thing in GOOD_PARTS:
            self.assertIs(is_parts(thing), True)

    def test_what_are_none(self):
        for thing in NOT_PARTS:
            with self.subTest(thing=thing):
                self.assertIs(is_parts(thing), False)


class InterfaceTest(unittest.TestCase):
    def test_arguments(self):
        wanted = {
            is_parts: "(thing)", length: "(parts)", put: "(parts, more, *, place=None)",
            cut: "(parts, many)", cells: "(parts, pieces)",
        }
        for function, text in wanted.items():
            self.assertEqual(str(inspect.signature(function)), text)
            self.assertEqual(function.__module__, "farfiles.parts")

    def test_by_name(self):
        one = ((1, 0, 2),)
        self.assertEqual(length(parts=one), 2)
        self.assertEqual(put(more=one, parts=(), place=0), one)
        self.assertEqual(cut(many=1, parts=one), ((1, 0, 1),))
        self.assertEqual(cells(pieces=PIECES, parts=one), (10, 11))


class LengthTest(unittest.TestCase):
    def test_length(self):
        for parts in GOOD_PARTS[:-2]:
            self.assertEqual(length(parts), len(all_cells(parts)))
        self.assertEqual(length(GOOD_PARTS[-2]), 10**59)
        self.assertEqual(length(GOOD_PARTS[-1]), 1200)

    def test_refused(self):
        for thing in NOT_PARTS:
            with self.assertRaises(NoParts) as caught:
                length(thing)
            self.assertIs(caught.exception.parts, thing)


class PutTest(unittest.TestCase):
    def test_at_each_place(self):
        for parts in SOME:
            for more in SOME:
                old, new = all_cells(parts), all_cells(more)
                for place in range(len(old) + 1):
                    with self.subTest(parts=parts, more=more, place=place):
                        wanted = joined(old[:place] + new + old[place + len(new):])
                        self.assertEqual(put(parts, more, place=place), wanted)

    def test_at_the_end(self):
        for parts in SOME:
            for more in SOME:
                wanted = joined(all_cells(parts) + all_cells(more))
                self.assertEqual(put(parts, more), wanted)
                self.assertEqual(put(parts, more, place=None), wanted)
                self.assertEqual(put(parts, more, place=length(parts)), wanted)

    def test_some_by_hand(self):
        self.assertEqual(put(((1, 0, 5),), ((2, 0, 2),), place=1), ((1, 0, 1), (2, 0, 2), (1, 3, 2)))
        self.assertEqual(put(((1, 0, 5),), ((2, 0, 3),), place=4), ((1, 0, 4), (2, 0, 3)))
        self.assertEqual(put(((1, 0, 2),), ((1, 2, 3),)), ((1, 0, 5),))
        self.assertEqual(put(((1, 0, 2),), ((1, 0, 2),)), ((1, 0, 2), (1, 0, 2)))
        self.assertEqual(put(((1, 0, 1), (1, 1, 1)), ()), ((1, 0, 2),))
        # What is put goes on with what stands ahead and behind.
        self.assertEqual(put(((1, 0, 2), (2, 0, 1), (1, 3, 2)), ((1, 2, 1),), place=2), ((1, 0, 5),))

    def test_twelve_hundred_parts(self):
        many = tuple([(1 + at % 2, at, 1) for at in range(1200)])
        self.assertEqual(put(many, ((3, 0, 1),), place=600), many[:600] + ((3, 0, 1),) + many[601:])
        self.assertEqual(put(many, many), many + many)
        self.assertEqual(put((), tuple([(5, at, 1) for at in range(1200)])), ((5, 0, 1200),))
        parts = ()
        for at in range(1200):
            parts = put(parts, ((at + 1, 0, 2),), place=at)
        self.assertEqual(parts, tuple([(at + 1, 0, 1) for at in range(1199)]) + ((1200, 0, 2),))

    def test_no_place(self):
        for place in (-1, 6, 10**50, -10**50, True, False, "0", "", (), [], {}, (0,), b"0"):
            with self.subTest(place=place), self.assertRaises(NoPlace) as caught:
                put(((1, 0, 5),), ((2, 0, 1),), place=place)
            self.assertIs(caught.exception.place, place)
        with self.assertRaises(NoPlace):
            put((), (), place=1)

    def test_no_parts_ahead_of_all_else(self):
        for thing in NOT_PARTS:
            with self.assertRaises(NoParts) as caught:
                put(thing, None, place="x")
            self.assertIs(caught.exception.parts, thing)
            with self.assertRaises(NoParts) as caught:
                put((), thing, place="x")
            self.assertIs(caught.exception.parts, thing)

    def test_what_is_handed_in_stays(self):
        parts, more = ((1, 0, 2), (2, 0, 1)), ((7, 0, 1),)
        put(parts, more, place=1)
        cut(parts, 1)
        self.assertEqual((parts, more), (((1, 0, 2), (2, 0, 1)), ((7, 0, 1),)))


class CutTest(unittest.TestCase):
    def test_to_each_number(self):
        for parts in SOME:
            for many in range(length(parts) + 1):
                with self.subTest(parts=parts, many=many):
                    self.assertEqual(cut(parts, many), joined(all_cells(parts)[:many]))

    def test_parts_that_go_on_are_told_as_one(self):
        self.assertEqual(cut(((1, 0, 2), (1, 2, 3)), 5), ((1, 0, 5),))
        self.assertEqual(cut(((1, 0, 2), (1, 2, 3)), 3), ((1, 0, 3),))
        self.assertEqual(cut(((1, 0, 2), (1, 3, 2)), 3), ((1, 0, 2), (1, 3, 1)))

    def test_no_place(self):
        for many in (-1, 6, 10**50, None, True, False, "1", (), [], {}):
            with self.subTest(many=many), self.assertRaises(NoPlace) as caught:
                cut(((1, 0, 5),), many)
            self.assertIs(caught.exception.place, many)

    def test_no_parts_ahead_of_all_else(self):
        for thing in NOT_PARTS:
            with self.assertRaises(NoParts) as caught:
                cut(thing, None)
            self.assertIs(caught.exception.parts, thing)

    def test_twelve_hundred_parts(self):
        many = tuple([(1 + at % 2, at, 3) for at in range(1200)])
        self.assertEqual(cut(many, 1801), many[:600] + ((1, 600, 1),))


class CellsTest(unittest.TestCase):
    def test_cells(self):
        for parts in SOME:
            wanted = tuple([PIECES[piece][at] for piece, at in all_cells(parts)])
            for keys in ((1, 2, 7), (7, 2, 1), (2, 7, 1)):
                self.assertEqual(cells(parts, {key: PIECES[key] for key in keys}), wanted)

    def test_without_parts(self):
        self.assertEqual(cells((), {}), ())

    def test_a_piece_lacks_whole(self):
        for parts, piece in ((((1, 0, 1), (3, 0, 1), (4, 0, 1)), 3), (((4, 0, 1), (3, 0, 1)), 4)):
            with self.assertRaises(NoPiece) as caught:
                cells(parts, PIECES)
            self.assertEqual(caught.exception.piece, piece)

    def test_a_piece_lacks_in_part(self):
        for part in ((2, 0, 4), (2, 2, 2), (2, 3, 1), (2, 10**40, 1), (7, 0, 10**40)):
            with self.subTest(part=part), self.assertRaises(NoPiece) as caught:
                cells(((1, 0, 5), part, (9, 0, 1)), PIECES)
            self.assertEqual(caught.exception.piece, part[0])
        with self.assertRaises(NoPiece):
            cells(((1, 0, 1),), {1: ()})

    def test_no_parts_whatever_stands_for_the_dict(self):
        for thing in NOT_PARTS:
            for pieces in (PIECES, {}, None, 7, []):
                with self.assertRaises(NoParts) as caught:
                    cells(thing, pieces)
                self.assertIs(caught.exception.parts, thing)

    def test_the_dict_stays(self):
        pieces = dict(PIECES)
        cells(((1, 0, 5),), pieces)
        self.assertEqual(pieces, PIECES)

    def test_twelve_hundred_parts(self):
        parts = tuple([(1 + at % 2, at % 3, 1) for at in range(1200)])
        self.assertEqual(len(cells(parts, PIECES)), 1200)


class RefusalsTest(unittest.TestCase):
    def test_the_base(self):
        for refusal in (NoParts, NoPlace, NoPiece):
            self.assertEqual(refusal.__bases__, (FarError,))


if __name__ == "__main__":
    unittest.main()
