"""[9] and [10]: faults, circles, and what is used from a piece on."""

import copy
import itertools
import unittest

from proseknot import order
from proseknot.errors import InvalidWeb, NoPiece, NotWhole, Undefined
from proseknot.webs import file_names, piece_names
from tests.reference import all_circles, all_reached, first_order, tangle_of_uses, whole_web
from tests.samples import EMPTY, GREET, LARGE, NO_WEBS, WIDE, plain, use


def piece(name, *used, params=(), is_file=False):
    """A section of a piece; used names become uses without arguments."""
    lines = [use(0, line) if isinstance(line, str) else line for line in used]
    return ((), (name, params, is_file), tuple(lines))


def file(name, *used):
    return piece(name, *used, is_file=True)


# a uses b and z, both use c, c uses a and d, and d only itself; e leads to the circles.
CIRCLES = (piece("e", "a"), piece("a", "z", "b"), piece("z", "c"), piece("b", "c"), piece("c", "d", "gone", "a"),
           piece("d", "d"), piece("f"))


class Faults(unittest.TestCase):
    def told(self, web, *expected):
        self.assertEqual(order.faults(web), expected)
        self.assertIs(order.is_whole(web), expected == ())

    def test_none(self):
        self.told(EMPTY)
        self.told(GREET)
        self.told(LARGE)
        self.told((((), None, ()), (("p",), None, ())))
        self.told((piece("a", "b", "b"), piece("b", "c"), piece("c")))

    def test_missing(self):
        self.told((file("a", plain("b()"), "gone"),), ("missing", 0, 1, "gone"))
        self.told((file("a", use(3, "gone", "x", "y")),), ("missing", 0, 0, "gone"))

    def test_count(self):
        takes_one = piece("b", params=("x",))
        self.told((((), None, ()), takes_one, file("a", "b")), ("count", 2, 0, "b"))
        self.told((file("a", use(0, "b", "x", "x")), takes_one), ("count", 0, 0, "b"))
        self.told((file("a", use(0, "b", "x")), takes_one))
        self.told((file("a", use(0, "b", "x")), piece("b")), ("count", 0, 0, "b"))

    def test_file(self):
        self.told((file("a", plain(""), plain(""), "b"), file("b")), ("file", 0, 2, "b"))

    def test_file_with_arguments_has_both(self):
        self.told((file("a", use(0, "b", "x"), "b"), file("b")),
                  ("count", 0, 0, "b"), ("file", 0, 0, "b"), ("file", 0, 1, "b"))

    def test_circle_of_a_piece_that_uses_itself(self):
        self.told((piece("a", "a"),), ("circle", "a"))
        self.told((file("a", "a"),), ("file", 0, 0, "a"), ("circle", "a"))
        self.told((piece("a", use(0, "a", "x")),), ("count", 0, 0, "a"), ("circle", "a"))

    def test_circles_stand_behind_all_uses_in_the_order_of_piece_names(self):
        self.told(CIRCLES, ("missing", 4, 1, "gone"), ("circle", "a"), ("circle", "z"), ("circle", "b"),
                  ("circle", "c"), ("circle", "d"))
        self.told((piece("b", "a"), piece("a"), piece("b"), piece("a", "b", "gone")),
                  ("missing", 3, 1, "gone"), ("circle", "b"), ("circle", "a"))

    def test_a_piece_told_in_several_sections_has_its_faults_where_the_uses_stand(self):
        self.told((piece("a", "gone"), piece("b"), piece("a", plain("x"), "gone", "b"), piece("a", "gone")),
                  ("missing", 0, 0, "gone"), ("missing", 2, 1, "gone"), ("missing", 3, 0, "gone"))

    def test_the_same_fault_again_and_again(self):
        self.told((piece("a", "gone", "gone"),), ("missing", 0, 0, "gone"), ("missing", 0, 1, "gone"))

    def test_beside_others(self):
        self.told(WIDE,
                  ("count", 3, 0, "deep"), ("missing", 3, 2, "nowhere"),
                  ("file", 4, 0, "main"), ("count", 4, 1, "deep"),
                  ("missing", 5, 1, "gone"), ("missing", 5, 2, "gone"),
                  ("count", 6, 1, "deep"), ("circle", "say"), ("circle", "main"))

    def test_circles_of_webs_that_are_made_up(self):
        for seed in range(150):
            web = tangle_of_uses(seed)
            told = [fault[1] for fault in order.faults(web) if fault[0] == "circle"]
            self.assertEqual(told, [name for name in piece_names(web) if all_circles(web, name)])
            self.assertIs(order.is_whole(web), order.faults(web) == ())

    def test_webs_made_up_without_faults(self):
        for seed in range(50):
            self.told(whole_web(seed))


class Circles(unittest.TestCase):
    def test_the_first_of_the_shortest_ways(self):
        self.assertEqual(order.circle_of(CIRCLES, "a"), ("a", "b", "c", "a"))
        self.assertEqual(order.circle_of(CIRCLES, "z"), ("z", "c", "a", "z"))
        self.assertEqual(order.circle_of(CIRCLES, "c"), ("c", "a", "b", "c"))
        self.assertEqual(order.circle_of(CIRCLES, "d"), ("d", "d"))

    def test_a_short_way_goes_ahead_of_an_earlier_long_one(self):
        web = (piece("m", "a", "z"), piece("a", "b"), piece("b", "m"), piece("z", "m"))
        self.assertEqual(order.circle_of(web, "m"), ("m", "z", "m"))
        self.assertEqual(order.circle_of((piece("m", "a", "m"), piece("a", "m")), "m"), ("m", "m"))

    def test_of_ways_that_part_late_the_first(self):
        web = (piece("m", "b", "a"), piece("a", "d"), piece("b", "c"), piece("c", "m"), piece("d", "m"))
        self.assertEqual(order.circle_of(web, "m"), ("m", "a", "d", "m"))

    def test_undefined(self):
        for web, name in ((CIRCLES, "e"), (CIRCLES, "f"), (GREET, "main"), (GREET, "say"), (WIDE, "deep")):
            with self.assertRaises(Undefined) as caught:
                order.circle_of(web, name)
            self.assertEqual(caught.exception.what, "circle")

    def test_no_piece(self):
        for web, name in ((CIRCLES, "gone"), (CIRCLES, "never"), (CIRCLES, ""), (EMPTY, "a")):
            for call in (order.circle_of, order.reached):
                with self.assertRaises(NoPiece) as caught:
                    call(web, name)
                self.assertEqual(caught.exception.name, name)

    def test_webs_that_are_made_up(self):
        for seed in range(150):
            web = tangle_of_uses(seed)
            for name in piece_names(web):
                expected = all_circles(web, name)
                if expected:
                    self.assertEqual(order.circle_of(web, name), expected[0])
                else:
                    self.assertRaises(Undefined, order.circle_of, web, name)


class CircleHolds(unittest.TestCase):
    def holds(self, *ways):
        for way in ways:
            self.assertIs(order.circle_holds(CIRCLES, way), True, way)

    def holds_not(self, *ways):
        for way in ways:
            self.assertIs(order.circle_holds(CIRCLES, way), False, way)

    def test_ways(self):
        self.holds(("d", "d"), ("a", "b", "c", "a"), ("a", "z", "c", "a"))

    def test_begun_elsewhere(self):
        self.holds(("b", "c", "a", "b"), ("c", "a", "b", "c"))

    def test_longer_than_the_shortest(self):
        web = (piece("a", "a", "b"), piece("b", "c", "a"), piece("c", "a"))
        for way in (("a", "a"), ("a", "b", "a"), ("a", "b", "c", "a")):
            self.assertIs(order.circle_holds(web, way), True)

    def test_turned_without_an_end_twice_round(self):
        self.holds_not(("a", "c", "b", "a"), ("a", "b", "c"), ("b", "c", "a"), ("d", "d", "d"), ("d",),
                       ("a", "b", "c", "a", "b", "c", "a"), ("a", "b", "c", "a", "z", "c", "a"))

    def test_a_name_twice_in_the_middle(self):
        self.holds_not(("a", "b", "c", "d", "d", "a"), ("c", "d", "d", "c"))
        web = (piece("a", "b"), piece("b", "c", "a"), piece("c", "b"))
        self.assertIs(order.circle_holds(web, ("a", "b", "c", "b", "a")), False)
        self.assertIs(order.circle_holds(web, ("b", "c", "b")), True)

    def test_a_step_that_is_no_use(self):
        self.holds_not(("a", "b", "a"), ("e", "a", "e"), ("c", "gone", "c"), ("gone", "gone"), ("f", "f"), ("e", "a"))

    def test_any_value(self):
        way = ("a", "b", "c", "a")
        self.holds_not(list(way), "dd", "abca", None, True, 0, -1, "", (), [], ((),), ("",), (way,), (way, way),
                       ("d", None, "d"), (0, 0), (True, 1), (None, None), (["d"], ["d"]), (("d",), ("d",)),
                       ("d", ["d"], "d"), [["d", "d"]], ("D", "D"), ("a", "b", "c", "a", []), ("", ""))
        for wrapped in (lambda value: (value,), lambda value: [value]):
            value = "d"
            for _ in range(29):
                value = wrapped(value)
                self.holds_not(value, (value, value))

    def test_all_short_tuples_of_names(self):
        for seed in range(12):
            web = tangle_of_uses(seed)
            names = piece_names(web)[:4]
            circles = [way for name in names for way in all_circles(web, name)]
            for many in range(5):
                for way in itertools.product(names + ("gone",), repeat=many):
                    self.assertIs(order.circle_holds(web, way), way in circles, (web, way))
            for way in circles:
                self.assertIs(order.circle_holds(web, way), True)


class InOrder(unittest.TestCase):
    def test_users_stand_ahead(self):
        self.assertEqual(order.in_order(EMPTY), ())
        self.assertEqual(order.in_order(GREET), ("main", "say"))
        self.assertEqual(order.in_order((piece("a"), piece("b"), piece("a"))), ("a", "b"))

    def test_a_piece_that_stands_early_is_used_by_a_later_one(self):
        self.assertEqual(order.in_order((piece("c"), piece("b", "c"), piece("a"))), ("b", "c", "a"))
        self.assertEqual(order.in_order((piece("a"), piece("b", "a"), piece("c", "b"), piece("d"))),
                         ("c", "b", "a", "d"))

    def test_the_first_by_piece_names_not_by_words(self):
        self.assertEqual(order.in_order((piece("z"), piece("a"), file("m", "z"))), ("a", "m", "z"))

    def test_a_use_told_in_a_later_section(self):
        self.assertEqual(order.in_order((piece("a"), piece("b"), piece("b", "a"))), ("b", "a"))

    def test_not_whole(self):
        for web in (WIDE, CIRCLES, (piece("a", "a"),), (file("a", use(0, "b", "x")), file("b"))):
            with self.assertRaises(NotWhole) as caught:
                order.in_order(web)
            self.assertEqual(caught.exception.fault, order.faults(web)[0])

    def test_webs_that_are_made_up(self):
        for seed in range(80):
            web = whole_web(seed)
            self.assertEqual(order.in_order(web), first_order(web))


class Reached(unittest.TestCase):
    def test_itself_and_all_that_is_used(self):
        self.assertEqual(order.reached(GREET, "main"), ("main", "say"))
        self.assertEqual(order.reached(GREET, "say"), ("say",))
        self.assertEqual(order.reached(GREET, name="say"), ("say",))

    def test_circles_and_names_that_are_not_there(self):
        self.assertEqual(order.reached(CIRCLES, "e"), ("a", "b", "c", "d", "e", "gone", "z"))
        self.assertEqual(order.reached(CIRCLES, "d"), ("d",))
        self.assertEqual(order.reached(WIDE, "deep"), ("deep", "gone"))
        self.assertEqual(order.reached(WIDE, "main"), ("deep", "gone", "main", "nowhere", "say"))

    def test_unreached(self):
        self.assertEqual(order.unreached(EMPTY), ())
        self.assertEqual(order.unreached(GREET), ())
        self.assertEqual(order.unreached((file("m", "b"), piece("z", "a", "b"), piece("a"), piece("b", "gone"))),
                         ("z", "a"))
        self.assertEqual(order.unreached((piece("b"), piece("a"), piece("b"))), ("b", "a"))

    def test_unreached_without_files(self):
        self.assertEqual(order.unreached(CIRCLES), ("e", "a", "z", "b", "c", "d", "f"))
        self.assertEqual(order.unreached(LARGE), ("say",))

    def test_unreached_of_webs_that_are_not_whole(self):
        self.assertEqual(order.unreached(WIDE), ())
        self.assertEqual(order.unreached((piece("y"), file("m", "n", "gone"), file("n"), piece("x", "x"))), ("y", "x"))

    def test_webs_that_are_made_up(self):
        for seed in range(150):
            web = tangle_of_uses(seed)
            rest = list(piece_names(web))
            for name in piece_names(web):
                self.assertEqual(order.reached(web, name), all_reached(web, name))
            for name in file_names(web):
                rest = [other for other in rest if other not in all_reached(web, name)]
            self.assertEqual(order.unreached(web), tuple(rest))


class EachTakesAWeb(unittest.TestCase):
    CALLS = ((order.faults, ()), (order.is_whole, ()), (order.circle_of, ("a",)), (order.circle_holds, (("a", "a"),)),
             (order.circle_holds, (None,)), (order.in_order, ()), (order.reached, ("",)), (order.unreached, ()))

    def test_invalid_web_ahead_of_all(self):
        for call, rest in self.CALLS:
            for value in NO_WEBS:
                with self.assertRaises(InvalidWeb) as caught:
                    call(value, *rest)
                self.assertIs(caught.exception.value, value, call)

    def test_nothing_that_is_handed_in_is_changed(self):
        way = ["a", ["a"], ("a", ["a"])]
        kept = copy.deepcopy(way)
        order.circle_holds(CIRCLES, way)
        order.circle_holds(web=CIRCLES, way=tuple(way))
        self.assertEqual(way, kept)

    def test_by_name(self):
        self.assertEqual(order.faults(web=GREET), ())
        self.assertIs(order.is_whole(web=GREET), True)
        self.assertEqual(order.circle_of(name="d", web=CIRCLES), ("d", "d"))
        self.assertIs(order.circle_holds(way=("d", "d"), web=CIRCLES), True)
        self.assertEqual(order.in_order(web=GREET), ("main", "say"))
        self.assertEqual(order.reached(name="main", web=GREET), ("main", "say"))
        self.assertEqual(order.unreached(web=GREET), ())
