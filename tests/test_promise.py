"""The promise over the whole program, of things drawn at random with a fixed seed; and that nothing is changed."""

import copy
import itertools
import random
import unittest
from fractions import Fraction

from grindbench.apart import taken_apart
from grindbench.desk import Desk
from grindbench.errors import BenchError
from grindbench.fields import field_of, is_within, size_of
from grindbench.images import foci_of, growth_of, image_of, strength_of
from grindbench.lamps import blur_of, slants_of, spots_of
from grindbench.limits import limits_of
from grindbench.pieces import look_at, piece_of
from grindbench.ratios import less_by, product_of
from grindbench.rings import form_of, rounds_gone, rounds_of, told_by
from grindbench.screens import sharp_for_all, sharp_places
from grindbench.shop import Shop
from grindbench.tables import bent_by, power_of, put_behind, table_of, undoing_of
from grindbench.texts import read_bench, show_bench
from grindbench.turning import turned_bench, turned_table
from grindbench.walks import goes_by, ray_behind, walk_of

from samples import (
    is_in_box, meant, some_benches, some_box, some_ratio, some_stretch, some_tables, table_told, told, without_stops,
)

LITTLE = Fraction(1, 10 ** 30)
LEAVING = table_told(1, 0, 0, 1)
NOUGHT = (0, 1)


def drawn(seed, how_many=120, most_pieces=8):
    """A source of numbers, and benches, the same for the same seed."""
    return random.Random(seed), some_benches(seed, how_many, most_pieces)


def some_ray(source):
    return (some_ratio(source), some_ratio(source))


def sent_back(ray):
    return (ray[0], less_by(NOUGHT, ray[1]))


def tables_of_few(pieces, numbers):
    """The tables of all benches of this many gaps and glasses with these numbers."""
    for words in itertools.product(["gap", "glass"], repeat=pieces):
        for parts in itertools.product(numbers, repeat=pieces):
            yield table_of(list(zip(words, parts)))


class WalksAndTablesTest(unittest.TestCase):
    def test_walk_table_and_turned_about_tell_the_same(self):
        source, benches = drawn(201)
        counts = {True: 0, False: 0}
        for bench in benches:
            table = table_of(bench)
            a, b, c, d = table
            self.assertEqual(less_by(product_of(a, d), product_of(b, c)), (1, 1))
            turned = turned_bench(bench)
            self.assertEqual(table_of(turned), turned_table(table))
            for turn in range(6):
                ray = some_ray(source)
                behind = bent_by(table, ray)
                self.assertEqual(ray_behind(without_stops(bench), ray), behind)
                by = goes_by(bench, ray)
                counts[by] += 1
                self.assertEqual(ray_behind(bench, ray), behind if by else None)
                # Sent back it goes by the same stops, and comes out as it had gone in.
                self.assertIs(goes_by(turned, sent_back(behind)), by)
                self.assertEqual(bent_by(turned_table(table), sent_back(behind)), sent_back(ray))
                if by:
                    self.assertEqual(ray_behind(turned, sent_back(behind)), sent_back(ray))
        self.assertTrue(min(counts.values()) > 50, counts)

    def test_joined_benches_texts_and_powers(self):
        source, benches = drawn(202, 60, 6)
        for first, second in zip(benches, benches[1:]):
            both = table_of(first + second)
            self.assertEqual(put_behind(table_of(first), table_of(second)), both)
            self.assertEqual(put_behind(both, undoing_of(both)), LEAVING)
            self.assertEqual(power_of(both, 3), table_of((first + second) * 3))
            self.assertEqual(read_bench(show_bench(first + second)), first + second)

    def test_taken_apart_into_as_few_as_any(self):
        numbers = [(0, 1), (1, 1), (-1, 1), (2, 1), (1, 2), (-2, 1)]
        fewest = {}
        for pieces in range(5):
            for table in tables_of_few(pieces, numbers if pieces < 4 else numbers[1:5]):
                fewest.setdefault(table, pieces)
        self.assertGreater(len(fewest), 300)
        for table, pieces in fewest.items():
            bench = taken_apart(table)
            self.assertEqual(table_of(bench), table)
            self.assertLessEqual(len(bench), pieces)
            self.assertEqual(without_stops(bench), bench)
        for table in some_tables(203, 60):
            self.assertEqual(table_of(taken_apart(table)), table)
            self.assertLessEqual(len(taken_apart(table)), 4)


class ImagesTest(unittest.TestCase):
    def test_an_image_just_where_all_rays_of_a_point_meet(self):
        source, benches = drawn(204)
        for bench in benches:
            table = table_of(bench)
            for turn in range(4):
                s, y = some_ratio(source), some_ratio(source)
                t = image_of(table, s)
                places = [some_ratio(source), some_ratio(source)] + ([] if t is None else [t])
                for place in places:
                    whole = [("gap", s)] + without_stops(bench) + [("gap", place)]
                    heights = {ray_behind(whole, (y, slant))[0] for slant in [(-1, 1), (0, 1), (1, 2), (3, 1)]}
                    self.assertEqual(len(heights) == 1, place == t)
                    if place == t:
                        self.assertEqual(heights, {product_of(growth_of(table, s), y)})

    def test_growths_are_multiplied(self):
        source, benches = drawn(205, 80, 6)
        for first, second in zip(benches, benches[1:]):
            s = some_ratio(source)
            t = image_of(table_of(first), s)
            if t is not None:
                ahead = less_by(NOUGHT, t)
                both = table_of(first + second)
                self.assertEqual(image_of(both, s), image_of(table_of(second), ahead))
                if image_of(both, s) is not None:
                    growths = product_of(growth_of(table_of(first), s), growth_of(table_of(second), ahead))
                    self.assertEqual(growth_of(both, s), growths)


class FieldsAndLampsTest(unittest.TestCase):
    def test_within_the_field_just_what_goes_by_every_stop(self):
        source, benches = drawn(206)
        counts = {True: 0, False: 0}
        for bench in benches:
            box = some_box(source)
            corners = field_of(bench, box)
            for turn in range(20):
                ray = some_ray(source)
                asked = is_in_box(box, ray) and goes_by(bench, ray)
                counts[asked] += 1
                self.assertIs(is_within(corners, ray), asked)
            for ray in corners:
                self.assertTrue(is_in_box(box, ray) and goes_by(bench, ray))
        self.assertTrue(min(counts.values()) > 50, counts)

    def test_limits_tell_the_same_as_walks(self):
        source, benches = drawn(207)
        for bench in benches:
            for turn in range(5):
                ray = some_ray(source)
                at = None
                for number, a, b, low, high in reversed(limits_of(bench)):
                    height = meant(a) * meant(ray[0]) + meant(b) * meant(ray[1])
                    if not meant(low) <= height <= meant(high):
                        at = number
                self.assertEqual(walk_of(bench, ray)[1], at)

    def test_a_field_and_a_lamp_tell_the_same(self):
        # A lamp at the bench's front is a box without breadth.
        source, benches = drawn(208)
        for bench in benches:
            height = some_ratio(source)
            first, last = some_stretch(source)
            corners = field_of(bench, (height, height, first, last))
            slants = slants_of(bench, (height, NOUGHT), first, last)
            if slants is None:
                self.assertEqual(corners, [])
            else:
                ends = [(height, slants[0]), (height, slants[1])]
                self.assertEqual(corners, ends if slants[0] != slants[1] else ends[:1])

    def test_sharp_just_where_the_blur_is_within_the_most(self):
        source, benches = drawn(209)
        kinds = {}
        for bench in benches:
            lamp = (some_ratio(source), some_ratio(source))
            slants = some_stretch(source)
            most = told(abs(meant(some_ratio(source))))
            places = sharp_places(bench, lamp, slants, most)
            kinds[places[0]] = kinds.get(places[0], 0) + 1
            tried = [meant(some_ratio(source)) for turn in range(6)]
            tried += [meant(end) + off for end in places[1:] for off in [-LITTLE, 0, LITTLE]]
            for t in tried:
                within = places == ("all",) or len(places) == 3 and meant(places[1]) <= t <= meant(places[2])
                low, high = spots_of(bench, lamp, slants, told(t))
                self.assertEqual(less_by(high, low), blur_of(bench, lamp, slants, told(t)))
                self.assertEqual(meant(blur_of(bench, lamp, slants, told(t))) <= meant(most), within)
        self.assertGreater(kinds["from"], 50)


class RingsTest(unittest.TestCase):
    def test_a_ring_comes_back_just_when_it_is_told(self):
        source = random.Random(210)
        rings = some_benches(210, 80, 6, ("gap", "glass"))
        # Among benches drawn of whole numbers, more come round; one that is turned by half is too rare to be drawn.
        rings.append([("gap", (1, 1)), ("glass", (1, 1))] * 3)
        for turn in range(150):
            rings.append([(source.choice(["gap", "glass"]), told(source.randint(-2, 2))) for place in range(4)])
        found = {}
        for bench in rings:
            table = table_of(bench)
            rounds = rounds_of(table)
            found[rounds] = True
            rays = [((1, 1), (0, 1)), ((0, 1), (1, 1))]
            going = list(rays)
            for n in range(1, 14):
                going = [ray_behind(bench, ray) for ray in going]
                self.assertEqual(going == rays, rounds is not None and n % rounds == 0)
        self.assertEqual(set(found), {1, 2, 3, 4, 6, None})

    def test_what_its_form_tells_never_changes(self):
        source, benches = drawn(211, 60)
        for bench in benches:
            form = form_of(table_of(bench))
            ray = some_ray(source)
            kept = told_by(form, ray)
            for turn in range(5):
                ray = ray_behind(without_stops(bench), ray)
                self.assertEqual(told_by(form, ray), kept)

    def test_rounds_gone_and_the_bench_many_times_over(self):
        source, benches = drawn(212, 120, 6)
        for bench in benches:
            ray = some_ray(source)
            gone = rounds_gone(bench, ray, 9)
            for n in range(10):
                self.assertIs(goes_by(bench * n, ray), n <= gone)


class ShopsTest(unittest.TestCase):
    def test_no_fewer_glasses_or_none(self):
        source = random.Random(213)
        answers = {True: 0, False: 0}
        for turn in range(50):
            strengths = [Fraction(source.choice([-2, -1, 1, 2]), source.choice([1, 2])) for name in range(3)]
            shop = Shop([(name, told(strength)) for name, strength in zip(["a", "bc", "d"], strengths)])
            gaps = [told(source.randint(-2, 2)) for gap in range(source.randint(1, 5))]
            slots = len(gaps) - 1
            choices = [list(choice) for choice in itertools.product(["", "a", "bc", "d"], repeat=slots)]
            tables = [(choice, table_of(shop.bench_for(gaps, choice))) for choice in choices]
            s = told(source.randint(-3, 3))
            wishes = [
                (("table", source.choice(tables)[1]), lambda table: table == wish[1]),
                (("image", s), lambda table: image_of(table, s) == NOUGHT),
                (("grown", s, told(source.choice([-1, 1, 2]))),
                 lambda table: image_of(table, s) == NOUGHT and growth_of(table, s) == wish[2]),
            ]
            for wish, does in wishes:
                doing = [choice for choice, table in tables if does(table)]
                answer = shop.fewest(gaps, wish)
                answers[answer is None] += 1
                if answer is None:
                    self.assertEqual(doing, [])
                else:
                    self.assertIn(answer, doing)
                    self.assertEqual(answer.count(""), max(choice.count("") for choice in doing))
        self.assertTrue(min(answers.values()) > 10, answers)


class NothingHangsTest(unittest.TestCase):
    def calls(self, bench, table, box, lamps, corners):
        """Calls of all that is handed a list or tells one, and of what is refused."""
        ray, slants, shop = ((1, 1), (0, 1)), ((0, 1), (1, 1)), Shop([("a", (1, 1))])
        return [
            lambda: look_at(bench), lambda: show_bench(bench), lambda: walk_of(bench, ray), lambda: goes_by(bench, ray),
            lambda: ray_behind(bench, ray), lambda: table_of(bench), lambda: turned_bench(bench),
            lambda: [piece_of(piece).told() for piece in bench], lambda: bent_by(table, ray),
            lambda: put_behind(table, table), lambda: undoing_of(table), lambda: power_of(table, -3),
            lambda: turned_table(table), lambda: taken_apart(table), lambda: image_of(table, (1, 1)),
            lambda: growth_of(table, (1, 1)), lambda: foci_of(table), lambda: strength_of(table),
            lambda: limits_of(bench), lambda: field_of(bench, box), lambda: is_within(corners, ray),
            lambda: size_of(corners), lambda: slants_of(bench, lamps[0], (0, 1), (1, 1)),
            lambda: spots_of(bench, lamps[0], slants, (1, 1)), lambda: blur_of(bench, lamps[0], slants, (1, 1)),
            lambda: sharp_places(bench, lamps[0], slants, (1, 1)),
            lambda: sharp_for_all(bench, lamps, (0, 1), (1, 1), (1, 1)), lambda: form_of(table),
            lambda: rounds_of(table), lambda: rounds_gone(bench, ray, 3), lambda: shop.kinds(),
            lambda: shop.bench_for([(1, 1), (2, 1)], ["a"]), lambda: shop.fewest([(0, 1), (0, 1)], ("table", table)),
            # What is refused.
            lambda: look_at(bench + [None]), lambda: table_of([bench]), lambda: field_of(bench, list(box)),
            lambda: slants_of(bench, lamps[0], (1, 1), (0, 1)), lambda: taken_apart(list(table)),
            lambda: sharp_for_all(bench, lamps, (1, 1), (0, 1), (1, 1)), lambda: Shop(tuple(bench)),
            lambda: shop.fewest(bench, None), lambda: read_bench(bench),
        ]

    def answer(self, call):
        try:
            return call()
        except BenchError as refused:
            return type(refused)

    def test_asked_twice_the_same_is_told_and_nothing_handed_in_is_changed(self):
        source, benches = drawn(214, 40, 8)
        for bench in benches:
            table = table_of(bench)
            box = some_box(source)
            lamps = [(some_ratio(source), some_ratio(source)) for lamp in range(2)]
            corners = field_of(bench, box)
            before = copy.deepcopy((bench, table, box, lamps, corners))
            calls = self.calls(bench, table, box, lamps, corners)
            first = [self.answer(call) for call in calls]
            kept = copy.deepcopy(first)
            for number, call in enumerate(calls):
                again = self.answer(call)
                self.assertEqual(again, kept[number])
                if isinstance(again, list):
                    self.assertIsNot(again, first[number])
                    again.append(None)
                    again.reverse()
            self.assertEqual(first, kept)
            self.assertEqual([self.answer(call) for call in calls], kept)
            self.assertEqual((bench, table, box, lamps, corners), before)

    def test_a_desk_keeps_what_it_was_told_among_all_that_is_asked(self):
        source, benches = drawn(215, 40, 8)
        one, other = Desk(), Desk()
        for bench in benches:
            one.say("bench a " + show_bench(bench))
            for row in ["turn b a", "join c a b", "walk c 1 0", "field a 0 1 0 1", "say", "field a 1 0 0 1", "show x"]:
                try:
                    one.say(row)
                except BenchError:
                    pass
            self.assertEqual(one.say("show a"), show_bench(bench))
            self.assertEqual(one.say("show b"), show_bench(turned_bench(bench)))
            self.assertEqual(one.say("show c"), show_bench(bench + turned_bench(bench)))
            for name in "abc":
                with self.assertRaises(BenchError):
                    other.say("show " + name)


if __name__ == "__main__":
    unittest.main()
