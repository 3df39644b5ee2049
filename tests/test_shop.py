"""The shop: its stock, the benches of its choices, and the fewest glasses for a wish."""

import copy
import itertools
import random
import unittest
from fractions import Fraction

from grindbench.errors import NoBench, NoStock, NoWish
from grindbench.images import growth_of
from grindbench.shop import Shop

from samples import (
    RATIOS, meant, no_lists, no_names, no_ratios, no_tables, some_ratio, table_by_walks, table_told, told, walked,
)

STOCK = [("weak", (1, 2)), ("strong", (2, 1)), ("hollow", (-1, 1))]
ONE_KIND = [("a", (1, 1))]


def no_stocks():
    """Things of many kinds that are no stocks."""
    one = ("a", (1, 1))
    stocks = [
        [], [one, ("b", (1, 1)), ("c", (1, 1)), ("d", (1, 1)), ("e", (1, 1))], [one, one], [one, ("a", (2, 1))],
        [one, ("b", (1, 1)), one], [("b", (1, 1)), one, ("c", (1, 1)), one], [one, None], [None, one], [one, []],
        (one,), (one, ("b", (1, 1))), one, {"a": (1, 1)}, {0: one}, {one}, frozenset([one]), "a", "a 1", "", None, 0,
        1, True,
        False, 1.5, 1j, b"a", range(1), object(), list, len, ..., iter([one]), Fraction(1), [[one]], [STOCK], ["a"],
        [1],
        [(1, 1)], [("a",)], [()], [("a", (1, 1), (1, 1))], [("a", (1, 1), None)], [["a", (1, 1)]], [{"a": (1, 1)}],
        [((1, 1), "a")], [("a", "a")], ["ab"], [(one, one)], [("a", (0, 1))], [one, ("b", (0, 1))],
    ]
    for name in no_names():
        stocks += [[(name, (1, 1))], [one, (name, (1, 1))]]
    for strength in no_ratios():
        stocks += [[("a", strength)], [("b", (1, 1)), ("a", strength)]]
    return stocks


def no_gaps():
    """Things of many kinds that are no gaps of a shop's bench."""
    gaps = no_lists() + [[], [(1, 1)] * 6, [(1, 1)] * 61, [None] * 6, [[(1, 1)]], [("gap", (1, 1))]]
    for part in no_ratios():
        gaps += [[part], [part, (1, 1)], [(1, 1), part], [(1, 1), (0, 1), part, (0, 1), (1, 1)]]
    return gaps


def no_wishes():
    """Things of many kinds that are no wishes."""
    one = (1, 1)
    table = table_told(1, 0, 0, 1)
    wishes = [
        None, 0, 1, True, False, 1.5, "", "table", "image", "image 1", (), ("table",), ("image",), ("grown",),
        ("grown", one),
        ("table", table, one), ("table", table, table), ("image", one, one), ("image", one, None),
        ("grown", one, one, one),
        ("grown", one, one, None), ["table", table], ["image", one], ["grown", one, one], {"image": one},
        {0: "image", 1: one},
        ("Table", table), ("TABLE", table), ("Image", one), ("IMAGE", one), ("Grown", one, one), ("tables", table),
        ("", one),
        ("image ", one), (" image", one), ("growth", one, one), ("grow", one, one), ("none",), ("gap", one),
        ("table", one),
        ("image", table), ("grown", table, one), ("grown", one, table), (None, one), (1, one), (True, one),
        (b"image", one),
        (["image"], one), ({}, one), (("image",), one), (one, "image"), table, one, (one, one), (one, one, one),
        object(),
        tuple, len, ..., b"image", range(2), Fraction(1), set(), [], {}, ("image", one, one, one), ("table", "image"),
    ]
    wishes += [("table", thing) for thing in no_tables()]
    for part in no_ratios():
        wishes += [("image", part), ("grown", part, one), ("grown", one, part), ("grown", part, part)]
    return wishes


def bench_of(stock, gaps, choice):
    """The bench of a choice, straight from the document's words."""
    strengths = dict(stock)
    bench = []
    for number, gap in enumerate(gaps):
        bench.append(("gap", gap))
        if number < len(choice) and choice[number] != "":
            bench.append(("glass", strengths[choice[number]]))
    return bench


def all_choices(stock, gaps):
    names = [""] + [name for name, strength in stock]
    return [list(choice) for choice in itertools.product(names, repeat=len(gaps) - 1)]


def glasses(choice):
    return sum(name != "" for name in choice)


def is_done(bench, wish):
    """Whether a bench does what is wished, by rays walked piece by piece."""
    if wish[0] == "table":
        return table_by_walks(bench) == wish[1]
    ahead = [("gap", wish[1])]
    ends = [[meant(walked(ahead + bench, (told(y), told(u)))[0][-1][0]) for u in [-1, 0, 2]] for y in [1, 3]]
    if any(len(set(heights)) > 1 for heights in ends):
        return False
    return wish[0] == "image" or all(heights[0] == y * meant(wish[2]) for y, heights in zip([1, 3], ends))


def some_shop(source):
    """A stock and gaps for it."""
    names = ["a", "b", "thick", "abcdefgh"][:source.randint(1, 4)]
    stock = []
    for name in names:
        strength = some_ratio(source, 3)
        stock.append((name, strength if strength != (0, 1) else (1, 2)))
    return stock, [some_ratio(source, 3) for turn in range(source.randint(1, 4))]


class StockTest(unittest.TestCase):
    def test_one_to_four_kinds(self):
        kinds = [("a", (1, 2)), ("bb", (-1, 3)), ("abcdefgh", (10 ** 40, 3)), ("z", (1, 2))]
        for count in range(1, 5):
            self.assertEqual(Shop(kinds[:count]).kinds(), kinds[:count])
            self.assertEqual(Shop(kinds[-count:]).kinds(), kinds[-count:])
        for name in ["a", "z", "azazazaz", "qwertyui", "table", "none"]:
            for strength in RATIOS:
                if strength != (0, 1):
                    self.assertEqual(Shop([(name, strength)]).kinds(), [(name, strength)])

    def test_what_is_no_stock(self):
        for thing in no_stocks():
            with self.assertRaises(NoStock, msg=repr(thing)):
                Shop(thing)

    def test_the_stock_changed_behind_the_making(self):
        stock = [("a", (1, 1)), ("b", (2, 1))]
        shop = Shop(stock)
        stock[0] = ("c", (9, 1))
        stock.append(None)
        self.assertEqual(shop.kinds(), [("a", (1, 1)), ("b", (2, 1))])
        self.assertEqual(shop.bench_for([(0, 1), (0, 1)], ["a"])[1], ("glass", (1, 1)))
        stock.clear()
        self.assertEqual(shop.fewest([(0, 1), (0, 1)], ("table", table_told(1, 0, -2, 1))), ["b"])

    def test_kinds_a_new_list_each_time(self):
        shop = Shop(STOCK)
        first = shop.kinds()
        self.assertIs(type(first), list)
        self.assertIsNot(first, shop.kinds())
        first.clear()
        self.assertEqual(shop.kinds(), STOCK)
        self.assertIsNot(shop.kinds(), STOCK)

    def test_two_shops_know_nothing_of_one_another(self):
        one, other = Shop([("a", (1, 1))]), Shop([("a", (2, 1))])
        self.assertEqual(one.bench_for([(0, 1), (0, 1)], ["a"])[1], ("glass", (1, 1)))
        self.assertEqual(other.bench_for([(0, 1), (0, 1)], ["a"])[1], ("glass", (2, 1)))

    def test_a_refused_stock_stays_as_it_is(self):
        stocks = [thing for thing in no_stocks() if type(thing) in (list, dict, set)]
        before = copy.deepcopy([repr(thing) for thing in stocks])
        for thing in stocks:
            with self.assertRaises(NoStock):
                Shop(thing)
        self.assertEqual([repr(thing) for thing in stocks], before)


class BenchForTest(unittest.TestCase):
    def test_one_gap(self):
        for gap in RATIOS:
            self.assertEqual(Shop(STOCK).bench_for([gap], []), [("gap", gap)])

    def test_written_out(self):
        shop = Shop(STOCK)
        gaps = [(1, 1), (0, 1), (-1, 2)]
        self.assertEqual(shop.bench_for(gaps, ["weak", "hollow"]), [
            ("gap", (1, 1)), ("glass", (1, 2)), ("gap", (0, 1)), ("glass", (-1, 1)), ("gap", (-1, 2)),
        ])
        self.assertEqual(shop.bench_for(gaps, ["", "strong"]), [
            ("gap", (1, 1)), ("gap", (0, 1)), ("glass", (2, 1)), ("gap", (-1, 2)),
        ])
        self.assertEqual(shop.bench_for(gaps, ["", ""]), [("gap", (1, 1)), ("gap", (0, 1)), ("gap", (-1, 2))])
        asked = [("gap", (0, 1)), ("glass", (1, 2))] * 4 + [("gap", (0, 1))]
        self.assertEqual(shop.bench_for([(0, 1)] * 5, ["weak"] * 4), asked)

    def test_all_choices(self):
        for gaps in [[(1, 2)], [(0, 1), (1, 1)], [(0, 1), (0, 1), (3, 1)], [(1, 1), (2, 1), (0, 1), (-1, 3)]]:
            shop = Shop(STOCK)
            for choice in all_choices(STOCK, gaps):
                self.assertEqual(shop.bench_for(gaps, choice), bench_of(STOCK, gaps, choice))

    def test_gaps_that_are_none(self):
        shop = Shop(STOCK)
        for thing in no_gaps():
            for choice in [[], ["weak"], ["weak", ""], None]:
                with self.assertRaises(NoBench, msg=repr(thing)) as taken:
                    shop.bench_for(thing, choice)
                self.assertIsNone(taken.exception.at)

    def test_a_new_list_each_time(self):
        shop = Shop(STOCK)
        gaps, choice = [(1, 1), (2, 1)], ["weak"]
        bench = shop.bench_for(gaps, choice)
        kept = list(bench)
        bench.clear()
        self.assertEqual(shop.bench_for(gaps, choice), kept)
        self.assertEqual((gaps, choice), ([(1, 1), (2, 1)], ["weak"]))
        bench = shop.bench_for(gaps, choice)
        gaps[0] = (9, 1)
        choice[0] = ""
        self.assertEqual(bench, kept)


class FewestTest(unittest.TestCase):
    def fits(self, stock, gaps, wish):
        """Whether there is a choice; it is held against all choices gone through."""
        shop = Shop(stock)
        before = copy.deepcopy((stock, gaps, wish))
        answer = shop.fewest(gaps, wish)
        self.assertEqual((stock, gaps, wish), before)
        doing = [choice for choice in all_choices(stock, gaps) if is_done(bench_of(stock, gaps, choice), wish)]
        if not doing:
            self.assertIsNone(answer, (stock, gaps, wish))
            return None
        self.assertIs(type(answer), list)
        self.assertIn(answer, doing, (stock, gaps, wish))
        self.assertEqual(glasses(answer), min(glasses(choice) for choice in doing), (stock, gaps, wish))
        return answer

    def test_table_wishes(self):
        gaps = [(0, 1), (0, 1), (0, 1)]
        self.assertEqual(glasses(self.fits(STOCK, gaps, ("table", table_told(1, 0, 0, 1)))), 0)
        self.assertEqual(glasses(self.fits(STOCK, gaps, ("table", table_told(1, 0, -2, 1)))), 1)
        self.assertEqual(glasses(self.fits(STOCK, gaps, ("table", table_told(1, 0, -1, 1)))), 2)
        self.assertIsNone(self.fits(STOCK, gaps, ("table", table_told(1, 0, -7, 1))))
        self.assertEqual(self.fits(ONE_KIND, [(2, 1)], ("table", table_told(1, 2, 0, 1))), [])
        self.assertIsNone(self.fits(ONE_KIND, [(2, 1)], ("table", table_told(1, 0, -1, 1))))

    def test_fewer_glasses_behind_more_of_them(self):
        # Two kinds undo one another, so that choices with more glasses do the same.
        stock = [("up", (1, 1)), ("down", (-1, 1))]
        for count in range(2, 6):
            self.assertEqual(glasses(self.fits(stock, [(0, 1)] * count, ("table", table_told(1, 0, -1, 1)))), 1)
            self.assertEqual(glasses(self.fits(stock, [(0, 1)] * count, ("table", table_told(1, 0, 0, 1)))), 0)
        stock = [("up", (1, 1)), ("down", (-1, 1)), ("two", (2, 1)), ("four", (4, 1))]
        self.assertEqual(glasses(self.fits(stock, [(0, 1)] * 5, ("table", table_told(1, 0, -3, 1)))), 2)
        self.assertEqual(glasses(self.fits(stock, [(0, 1)] * 5, ("table", table_told(1, 0, -7, 1)))), 3)
        self.assertEqual(glasses(self.fits(stock, [(0, 1)] * 5, ("table", table_told(1, 0, -13, 1)))), 4)
        self.assertIsNone(self.fits(stock, [(0, 1)] * 5, ("table", table_told(1, 0, -17, 1))))

    def test_image_wishes(self):
        stock = [("a", (1, 1)), ("b", (1, 2))]
        self.assertEqual(self.fits(stock, [(0, 1), (4, 1)], ("image", (4, 1))), ["b"])
        self.assertEqual(self.fits(stock, [(0, 1), (2, 1)], ("image", (2, 1))), ["a"])
        self.assertEqual(self.fits(stock, [(1, 1), (2, 1)], ("image", (1, 1))), ["a"])
        self.assertIsNone(self.fits(stock, [(0, 1), (3, 1)], ("image", (3, 1))))
        self.assertEqual(self.fits(stock, [(3, 1)], ("image", (-3, 1))), [])
        self.assertIsNone(self.fits(stock, [(3, 1)], ("image", (3, 1))))

    def test_grown_wishes(self):
        stock = [("a", (1, 1)), ("b", (1, 2))]
        self.assertEqual(self.fits(stock, [(0, 1), (4, 1)], ("grown", (4, 1), (-1, 1))), ["b"])
        self.assertIsNone(self.fits(stock, [(0, 1), (4, 1)], ("grown", (4, 1), (1, 1))))
        self.assertIsNone(self.fits(stock, [(0, 1), (4, 1)], ("grown", (4, 1), (0, 1))))
        self.assertEqual(self.fits(stock, [(0, 1), (6, 1)], ("grown", (3, 1), (-2, 1))), ["b"])
        self.assertIsNone(self.fits(stock, [(0, 1), (6, 1)], ("grown", (3, 1), (-1, 2))))
        self.assertEqual(self.fits(stock, [(3, 1)], ("grown", (-3, 1), (1, 1))), [])
        self.assertIsNone(self.fits(stock, [(3, 1)], ("grown", (-3, 1), (-1, 1))))

    def test_a_growth_that_asks_for_more_glasses_than_the_image(self):
        gaps = [(0, 1), (-2, 1), (1, 1)]
        self.assertEqual(self.fits(ONE_KIND, gaps, ("image", (1, 1))), ["", ""])
        self.assertEqual(self.fits(ONE_KIND, gaps, ("grown", (1, 1), (1, 1))), ["", ""])
        self.assertEqual(self.fits(ONE_KIND, gaps, ("grown", (1, 1), (-1, 1))), ["a", "a"])
        self.assertIsNone(self.fits(ONE_KIND, gaps, ("grown", (1, 1), (2, 1))))

    def test_drawn_at_random(self):
        source = random.Random(121)
        counts = {}
        for turn in range(60):
            stock, gaps = some_shop(source)
            choice = source.choice(all_choices(stock, gaps))
            table = table_by_walks(bench_of(stock, gaps, choice))
            s = some_ratio(source)
            wishes = [("table", table), ("image", s), ("grown", s, some_ratio(source))]
            if table[0] != (0, 1):
                # The place whose image is at 0 by this choice: a s + b = 0.
                s = told(-meant(table[1]) / meant(table[0]))
                wishes += [("image", s), ("grown", s, growth_of(table, s)), ("grown", s, some_ratio(source))]
            for wish in wishes:
                answer = self.fits(stock, gaps, wish)
                count = None if answer is None else glasses(answer)
                counts[count] = counts.get(count, 0) + 1
        self.assertTrue(all(counts.get(key, 0) > 4 for key in [None, 0, 1, 2, 3]), counts)

    def test_four_kinds_and_five_gaps(self):
        stock = [("a", (1, 2)), ("b", (1, 3)), ("c", (-1, 5)), ("d", (2, 7))]
        gaps = [(1, 1), (2, 3), (1, 5), (3, 7), (1, 1)]
        for choice in [["a", "b", "c", "d"], ["", "b", "", ""], ["d", "d", "", "a"]]:
            table = table_by_walks(bench_of(stock, gaps, choice))
            self.assertEqual(self.fits(stock, gaps, ("table", table)), choice)
        self.assertIsNone(self.fits(stock, gaps, ("table", table_told(1, 0, 0, 1))))

    def test_wishes_that_are_none(self):
        shop = Shop(STOCK)
        for wish in no_wishes():
            for gaps in [[(0, 1)], [(1, 1), (2, 1)]]:
                with self.assertRaises(NoWish, msg=repr(wish)):
                    shop.fewest(gaps, wish)

    def test_gaps_that_are_none_ahead_of_wishes_that_are_none(self):
        shop = Shop(STOCK)
        for thing in no_gaps():
            for wish in [("image", (1, 1)), None, ("table", None), ("grown", (1, 1))]:
                with self.assertRaises(NoBench, msg=repr(thing)) as taken:
                    shop.fewest(thing, wish)
                self.assertIsNone(taken.exception.at)

    def test_a_new_list_each_time(self):
        shop = Shop(STOCK)
        gaps, wish = [(0, 1), (0, 1)], ("table", table_told(1, 0, -2, 1))
        first = shop.fewest(gaps, wish)
        self.assertEqual(first, ["strong"])
        first.clear()
        self.assertEqual(shop.fewest(gaps, wish), ["strong"])
        alone = shop.fewest([(0, 1)], ("table", table_told(1, 0, 0, 1)))
        alone.append("weak")
        self.assertEqual(shop.fewest([(0, 1)], ("table", table_told(1, 0, 0, 1))), [])

    def test_answers_stay_the_same_behind_a_refusal(self):
        shop = Shop(STOCK)
        gaps, wish = [(0, 1), (0, 1)], ("table", table_told(1, 0, -2, 1))
        for wrong in [
            lambda: shop.fewest(gaps, None), lambda: shop.fewest([], wish), lambda: shop.bench_for(None, ["weak"]),
        ]:
            with self.assertRaises((NoWish, NoBench)):
                wrong()
            self.assertEqual(shop.fewest(gaps, wish), ["strong"])
            self.assertEqual(shop.kinds(), STOCK)


if __name__ == "__main__":
    unittest.main()
