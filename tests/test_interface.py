"""The interface: every name in its file, with its arguments as the document writes them."""

import importlib
import inspect
import unittest

FUNCTIONS = {
    "ratios": "is_whole(thing) is_ratio(thing) ratio_of(top,bottom) sum_of(one,other) less_by(one,other) "
              "product_of(one,other) quotient_of(one,other) is_less(one,other)",
    "figures": "read_ratio(text) show_ratio(one)",
    "pieces": "is_piece(thing) piece_of(told) look_at(bench)",
    "texts": "read_bench(text) show_bench(bench)",
    "walks": "walk_of(bench,ray) goes_by(bench,ray) ray_behind(bench,ray)",
    "tables": "is_table(thing) table_of(bench) bent_by(table,ray) put_behind(first,second) undoing_of(table) "
              "power_of(table,n)",
    "turning": "turned_bench(bench) turned_table(table)",
    "apart": "taken_apart(table)",
    "images": "image_of(table,s) growth_of(table,s) foci_of(table) strength_of(table)",
    "limits": "limits_of(bench)",
    "fields": "field_of(bench,box) is_within(corners,ray) size_of(corners)",
    "lamps": "slants_of(bench,lamp,first,last) spots_of(bench,lamp,slants,t) blur_of(bench,lamp,slants,t)",
    "screens": "sharp_places(bench,lamp,slants,most) sharp_for_all(bench,lamps,first,last,most)",
    "rings": "form_of(table) told_by(form,ray) rounds_of(table) rounds_gone(bench,ray,most)",
}
CLASSES = {
    "pieces": {
        "Gap(length)": "lets(ray) bent(ray) told()", "Glass(strength)": "lets(ray) bent(ray) told()",
        "Stop(low,high)": "lets(ray) bent(ray) told()",
    },
    "shop": {"Shop(stock)": "kinds() bench_for(gaps,choice) fewest(gaps,wish)"},
    "desk": {"Desk()": "say(row)"},
}
ERRORS = "NoNumber NoText NoTable NoBox NoStock NoWish NoRow Unknown NoBench"


def module(name):
    return importlib.import_module("grindbench." + name)


def parted(written):
    """A written call's name and the names of its arguments."""
    name, arguments = written.rstrip(")").split("(")
    return name, [argument for argument in arguments.split(",") if argument]


class InterfaceTest(unittest.TestCase):
    def takes(self, called, arguments):
        found = inspect.signature(called).parameters.values()
        self.assertEqual([one.name for one in found], arguments, called)
        for one in found:
            self.assertEqual((one.kind, one.default), (one.POSITIONAL_OR_KEYWORD, one.empty))

    def test_functions(self):
        for file, calls in FUNCTIONS.items():
            for written in calls.split():
                name, arguments = parted(written)
                self.takes(getattr(module(file), name), arguments)
                self.assertEqual(getattr(module(file), name).__module__, "grindbench." + file)

    def test_classes_and_methods(self):
        for file, classes in CLASSES.items():
            for written, methods in classes.items():
                name, arguments = parted(written)
                made = getattr(module(file), name)
                self.assertIs(inspect.isclass(made), True)
                self.takes(made, arguments)
                for method in methods.split():
                    called, given = parted(method)
                    self.takes(getattr(made, called), ["self"] + given)

    def test_pieces_stand_under_piece(self):
        pieces = module("pieces")
        pieces.Piece()
        for made in [pieces.Gap, pieces.Glass, pieces.Stop]:
            self.assertTrue(issubclass(made, pieces.Piece))

    def test_refusals(self):
        errors = module("errors")
        self.assertEqual(errors.BenchError.__mro__[1], ValueError)
        for name in ERRORS.split():
            self.assertEqual(getattr(errors, name).__bases__, (errors.BenchError,))


if __name__ == "__main__":
    unittest.main()
