"""Pieces and benches: what they are, what is none, and pieces as objects."""

import copy
import unittest

from grindbench.errors import BenchError, NoBench
from grindbench.pieces import Gap, Glass, Piece, Stop, is_piece, look_at, piece_of

from samples import RATIOS, RAYS, meant, no_lists, no_pieces, no_ratios, some_benches, told

GAP = ("gap", (3, 2))
SPANS = [(low, high) for low in RATIOS for high in RATIOS if meant(low) <= meant(high)]
TURNED_SPANS = [(low, high) for low in RATIOS for high in RATIOS if meant(low) > meant(high)]


class IsPieceTest(unittest.TestCase):
    def test_gaps_and_glasses(self):
        for one in RATIOS:
            self.assertIs(is_piece(("gap", one)), True, one)
            self.assertIs(is_piece(("glass", one)), True, one)

    def test_stops(self):
        for low, high in SPANS:
            self.assertIs(is_piece(("stop", low, high)), True, (low, high))

    def test_stops_told_the_other_way_about(self):
        for low, high in TURNED_SPANS:
            self.assertIs(is_piece(("stop", low, high)), False, (low, high))

    def test_what_is_none(self):
        for thing in no_pieces():
            self.assertIs(is_piece(thing), False, repr(thing))

    def test_parts_that_are_no_fractions(self):
        for part in no_ratios():
            for thing in [
                ("gap", part), ("glass", part), ("stop", part, part), ("stop", part, (9, 1)), ("stop", (-9, 1), part),
            ]:
                self.assertIs(is_piece(thing), False, repr(thing))

    def test_parts_too_many_or_too_few(self):
        one = (1, 2)
        for word in ["gap", "glass", "stop"]:
            for length in range(6):
                asked = length == (2 if word == "stop" else 1)
                self.assertIs(is_piece((word,) + (one,) * length), asked, (word, length))

    def test_what_is_asked_of_stays_as_it_is(self):
        for things in [no_pieces, no_ratios]:
            kept = [thing for thing in things() if isinstance(thing, (list, dict, set))]
            before = copy.deepcopy(kept)
            for thing in kept:
                is_piece(thing)
                is_piece(("gap", thing))
                is_piece((thing, (1, 2)))
            self.assertEqual(kept, before)


class ObjectsTest(unittest.TestCase):
    def both(self, parts):
        """The object made of the parts, and the one made of the tuple."""
        word = parts[0]
        if word == "gap":
            made = Gap(parts[1])
        elif word == "glass":
            made = Glass(parts[1])
        else:
            made = Stop(parts[1], parts[2])
        return [made, piece_of(parts)]

    def all_pieces(self):
        pieces = [(word, one) for word in ["gap", "glass"] for one in RATIOS]
        return pieces + [("stop", low, high) for low, high in SPANS]

    def test_each_is_a_piece_of_its_own_class(self):
        self.assertIsInstance(Piece(), Piece)
        for one in RATIOS:
            self.assertIs(type(piece_of(("gap", one))), Gap)
            self.assertIs(type(piece_of(("glass", one))), Glass)
            self.assertIs(type(piece_of(("stop", one, one))), Stop)
        for parts in self.all_pieces():
            for made in self.both(parts):
                self.assertIsInstance(made, Piece)
        for kind in [Gap, Glass, Stop]:
            self.assertTrue(issubclass(kind, Piece))
            for other in [Gap, Glass, Stop]:
                self.assertEqual(issubclass(kind, other), kind is other)

    def test_told_again(self):
        for parts in self.all_pieces():
            for made in self.both(parts):
                self.assertIs(type(made.told()), tuple)
                self.assertEqual(made.told(), parts)
                self.assertIs(is_piece(made.told()), True)

    def test_gaps_bend(self):
        self.assertEqual(Gap((3, 2)).bent(((1, 1), (1, 3))), ((3, 2), (1, 3)))
        self.assertEqual(Gap((-2, 1)).bent(((1, 1), (1, 2))), ((0, 1), (1, 2)))
        for length in RATIOS:
            for ray in RAYS:
                asked = (told(meant(ray[0]) + meant(length) * meant(ray[1])), ray[1])
                for made in self.both(("gap", length)):
                    self.assertEqual(made.bent(ray), asked)

    def test_glasses_bend(self):
        self.assertEqual(Glass((1, 4)).bent(((2, 1), (1, 1))), ((2, 1), (1, 2)))
        self.assertEqual(Glass((-1, 4)).bent(((2, 1), (1, 1))), ((2, 1), (3, 2)))
        for strength in RATIOS:
            for ray in RAYS:
                asked = (ray[0], told(meant(ray[1]) - meant(strength) * meant(ray[0])))
                for made in self.both(("glass", strength)):
                    self.assertEqual(made.bent(ray), asked)

    def test_gaps_and_glasses_let_all_by(self):
        for word in ["gap", "glass"]:
            for one in RATIOS:
                for made in self.both((word, one)):
                    for ray in RAYS:
                        self.assertIs(made.lets(ray), True)

    def test_a_stop_leaves_the_ray_as_it_is(self):
        for low, high in SPANS:
            for made in self.both(("stop", low, high)):
                for ray in RAYS[::7]:
                    self.assertEqual(made.bent(ray), ray)

    def test_a_stop_lets_by_within_and_at_its_ends(self):
        little = told(meant((1, 10 ** 50)))
        for low, high in SPANS:
            for made in self.both(("stop", low, high)):
                for slant in [(0, 1), (100, 1), (-100, 1)]:
                    middle = told((meant(low) + meant(high)) / 2)
                    for height in [low, high, middle]:
                        self.assertIs(made.lets((height, slant)), True)
                    below = told(meant(low) - meant(little))
                    above = told(meant(high) + meant(little))
                    for height in [below, above, told(meant(low) - 1), told(meant(high) + 1)]:
                        self.assertIs(made.lets((height, slant)), False)

    def test_a_little_within_the_ends(self):
        made = Stop((-1, 2), (1, 3))
        within = meant((1, 10 ** 50))
        self.assertIs(made.lets((told(meant((-1, 2)) + within), (0, 1))), True)
        self.assertIs(made.lets((told(meant((1, 3)) - within), (0, 1))), True)

    def test_two_objects_asked_in_turns(self):
        one_gap = Gap((1, 1))
        other_gap = Gap((2, 1))
        one_glass = Glass((1, 2))
        other_glass = Glass((-1, 3))
        one_stop = Stop((0, 1), (1, 1))
        other_stop = Stop((2, 1), (3, 1))
        ray = ((1, 1), (1, 1))
        for turn in range(3):
            self.assertEqual(one_gap.bent(ray), ((2, 1), (1, 1)), turn)
            self.assertEqual(other_gap.bent(ray), ((3, 1), (1, 1)), turn)
            self.assertEqual(one_glass.bent(ray), ((1, 1), (1, 2)), turn)
            self.assertEqual(other_glass.bent(ray), ((1, 1), (4, 3)), turn)
            self.assertIs(one_stop.lets(ray), True, turn)
            self.assertIs(other_stop.lets(ray), False, turn)
            self.assertEqual(one_gap.told(), ("gap", (1, 1)), turn)
            self.assertEqual(other_gap.told(), ("gap", (2, 1)), turn)
            self.assertEqual(one_stop.told(), ("stop", (0, 1), (1, 1)), turn)
            self.assertEqual(other_stop.told(), ("stop", (2, 1), (3, 1)), turn)


class LookAtTest(unittest.TestCase):
    def at_of(self, thing):
        with self.assertRaises(NoBench, msg=repr(thing)) as taken:
            look_at(thing)
        self.assertIsInstance(taken.exception, BenchError)
        return taken.exception.at

    def test_benches(self):
        for bench in [[], [GAP], [("stop", (0, 1), (0, 1))], [GAP] * 59, [GAP] * 60]:
            self.assertIsNone(look_at(bench))
        for bench in some_benches(1, 200, 60):
            self.assertIsNone(look_at(bench))

    def test_the_number_of_the_first_that_is_no_piece(self):
        for length in [1, 2, 3, 30, 60]:
            for number in range(length):
                bench = [GAP] * length
                bench[number] = ("gap", 1)
                found = self.at_of(bench)
                self.assertIs(type(found), int)
                self.assertEqual(found, number)

    def test_where_there_are_two(self):
        for first in range(5):
            for second in range(first + 1, 6):
                bench = [GAP] * 6
                bench[first] = None
                bench[second] = ("stop", (1, 1), (0, 1))
                self.assertEqual(self.at_of(bench), first)
        self.assertEqual(self.at_of([None] * 60), 0)

    def test_all_that_is_no_piece(self):
        for thing in no_pieces():
            self.assertEqual(self.at_of([GAP, thing]), 1)
            self.assertEqual(self.at_of([thing, GAP]), 0)
        for part in no_ratios():
            self.assertEqual(self.at_of([GAP, GAP, ("glass", part)]), 2)

    def test_what_is_no_list(self):
        for thing in no_lists():
            self.assertIsNone(self.at_of(thing))

    def test_more_than_sixty(self):
        for length in [61, 62, 100, 1000]:
            self.assertIsNone(self.at_of([GAP] * length))
            for number in [0, 30, 59, 60, length - 1]:
                bench = [GAP] * length
                bench[number] = None
                self.assertIsNone(self.at_of(bench))
            self.assertIsNone(self.at_of([None] * length))

    def test_what_is_handed_in_stays(self):
        things = [[GAP] * 3, [], [GAP, ["gap", [1, 1]], {}], [GAP] * 61, {"gap": [GAP]}, [[GAP]]]
        before = copy.deepcopy(things)
        for thing in things:
            try:
                look_at(thing)
            except NoBench:
                pass
        self.assertEqual(things, before)

    def test_a_bench_stays_one_behind_a_refusal(self):
        bench = [GAP, None]
        for turn in range(2):
            self.assertEqual(self.at_of(bench), 1, turn)
        bench.pop()
        self.assertIsNone(look_at(bench))


if __name__ == "__main__":
    unittest.main()
