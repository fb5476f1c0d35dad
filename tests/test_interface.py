"""The interface of DOC.md: the listed names, with as many arguments as listed."""

import importlib
import inspect
import unittest

LISTED = {
    "lowest": (
        "divisor(one, other)", "fraction(top, bottom)", "plus(one, other)", "minus(one, other)",
        "times(one, other)", "divided(one, other)", "ranked(one, other)",
    ),
    "points": ("point(x, y, z, w)", "amid(p, q)", "turn(p, q, r, s)"),
    "planes": ("plane(a, b, c, d)", "height(plane, point)", "over(plane)", "plane_through(p, q, r)"),
    "lines": ("line_through(p, q)", "on_line(line, point)", "line_common(one, other)", "spot(line, plane)"),
    "rows": (
        "row_of(line, stretches)", "row_place(line, row, point)", "row_joined(line, one, other)",
        "row_common(line, one, other)", "row_less(line, one, other)", "row_either(line, one, other)",
    ),
    "lands": (
        "land_of(plane, rings)", "is_land(land)", "land_over(land)", "land_place(land, point)", "spread(land)",
    ),
    "landwords": (
        "land_joined(one, other)", "land_common(one, other)", "land_less(one, other)", "land_either(one, other)",
    ),
    "rims": ("rim(land, plane)", "trace(land, plane)", "land_part(land, plane)"),
    "bodies": ("body_of(rings)", "is_body(body)", "heap_of(body)"),
    "fronts": ("land_before(body, plane)",),
    "words": ("joined(one, other)", "common(one, other)", "less(one, other)", "either(one, other)"),
    "corners": ("corners(body)", "bits(body)", "counts(body)"),
    "volumes": ("volume(body)", "place(body, point)"),
    "ways": ("beyond(body, point, way)",),
    "cuts": ("cut(body, plane)", "part(body, plane)", "diced(body, planes)", "joined_all(bodies)"),
    "plain": ("is_plain(body)",),
    "shells": ("shells(body)", "nest(body)", "pieces(body)", "handles(body)"),
    "moves": (
        "table(first, second, third, bottom)", "moved_point(point, by)", "moved_plane(plane, by)", "moved(body, by)",
        "after(first, second)", "undone(by)",
    ),
    "texts": (
        "shown_number(number)", "read_number(line)", "shown_point(point)", "read_point(line)", "shown_rings(rings)",
        "read_rings(line)", "shown(body)", "read(line)",
    ),
}


FREE = ("rings", "walls")  # the issues ask for these files, what stands in them is free


class Names(unittest.TestCase):
    def test_files_are_there(self):
        for file in FREE:
            importlib.import_module("solidyard." + file)

    def test_listed_functions_are_there(self):
        for file, rows in LISTED.items():
            module = importlib.import_module("solidyard." + file)
            for row in rows:
                name = row.partition("(")[0]
                function = getattr(module, name)
                self.assertEqual(name + str(inspect.signature(function)), row)
                self.assertEqual(function.__module__, "solidyard." + file)

    def test_the_class_is_there(self):
        desk = importlib.import_module("solidyard.desk").Desk
        self.assertTrue(inspect.isclass(desk))
        self.assertEqual(str(inspect.signature(desk)), "()")
        self.assertIn("tell", vars(desk))
        self.assertEqual(str(inspect.signature(desk.tell)), "(self, line)")


if __name__ == "__main__":
    unittest.main()
