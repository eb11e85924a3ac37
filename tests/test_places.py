import unittest
from itertools import product

from helpers import NO_NAMES, NO_PLACES, Case
from nearestsays.errors import BadName, BadPlace, TooMany
from nearestsays.places import Place
from nearestsays.tables import Table

DEEPEST = "/a/b/c/d/e/f/g/h"


class Making(Case):
    def test_names_of_one_and_of_eight_characters(self):
        self.assertEqual(Place("a", "abcdefgh", "0", "12345678", "z9").names, ("a", "abcdefgh", "0", "12345678", "z9"))

    def test_every_character_of_names(self):
        for sign in "abcdefghijklmnopqrstuvwxyz0123456789":
            self.assertEqual(Place(sign).text, "/" + sign)

    def test_every_other_character_is_refused(self):
        for sign in [chr(code) for code in range(32, 127)] + ["\t", "\n"]:
            if sign not in "abcdefghijklmnopqrstuvwxyz0123456789":
                self.refused(BadName, {"value": sign}, Place, sign)
                self.refused(BadName, {"value": "a" + sign}, Place, "a" + sign)

    def test_what_is_no_name_is_refused(self):
        for value in NO_NAMES:
            self.refused(BadName, {"value": value}, Place, value)
            self.refused(BadName, {"value": value}, Place, "a", "b", value, "c")

    def test_the_first_wrong_name_is_told(self):
        self.refused(BadName, {"value": "X"}, Place, "a", "X", "Y")
        self.refused(BadName, {"value": None}, Place, None, 1)

    def test_eight_names_and_nine(self):
        self.assertEqual(Place(*"abcdefgh").text, DEEPEST)
        self.refused(TooMany, {"most": 8}, Place, *"abcdefghi")
        self.refused(TooMany, {"most": 8}, Place, *("a" * 30))

    def test_a_wrong_name_goes_ahead_of_too_many(self):
        self.refused(BadName, {"value": "X"}, Place, *"abcdefgh", "X")
        self.refused(BadName, {"value": True}, Place, True, *"abcdefghijkl")

    def test_the_same_name_twice(self):
        self.assertEqual(Place("a", "a").text, "/a/a")

    def test_most(self):
        self.same(Place.MOST, 8)


class Reading(Case):
    def test_texts(self):
        for names in [(), ("a",), ("a", "b"), ("0", "abcdefgh"), tuple("abcdefgh")]:
            text = "/" + "/".join(names)
            for place in (Place.read(text), Place.of(text), Place.read(text=text), Place.of(value=text)):
                self.assertIs(type(place), Place)
                self.same(place.names, names)
                self.same(place.text, text)
                self.assertEqual(place, Place(*names))

    def test_read_refuses_all_else(self):
        for value in [*NO_PLACES, Place("a"), Place()]:
            self.refused(BadPlace, {"value": value}, Place.read, value)

    def test_of_refuses_all_else(self):
        for value in NO_PLACES:
            self.refused(BadPlace, {"value": value}, Place.of, value)

    def test_nine_names_are_no_text(self):
        self.refused(BadPlace, {"value": DEEPEST + "/i"}, Place.read, DEEPEST + "/i")

    def test_of_gives_the_place_itself(self):
        place = Place("a", "b")
        self.assertIs(Place.of(place), place)

    def test_called_off_an_object(self):
        self.assertEqual(Place("x").read("/a"), Place("a"))
        self.assertEqual(Place("x").of("/a"), Place("a"))


class Asking(Case):
    def test_names_text_length_truth(self):
        self.same([Place().names, Place().text, len(Place()), bool(Place())], [(), "/", 0, False])
        place = Place("a", "bc")
        self.same([place.names, place.text, len(place), bool(place)], [("a", "bc"), "/a/bc", 2, True])

    def test_str_and_repr(self):
        self.same([str(Place()), str(Place("a", "b"))], ["/", "/a/b"])
        self.same([repr(Place()), repr(Place("a", "b"))], ["Place('/')", "Place('/a/b')"])

    def test_up(self):
        self.assertIsNone(Place().up)
        self.assertEqual(Place("a").up, Place())
        self.assertEqual(Place("a", "b", "c").up, Place("a", "b"))
        self.assertIs(type(Place("a").up), Place)

    def test_places_never_change(self):
        place = Place("a", "b")
        for name in ("names", "text", "up"):
            with self.assertRaises(AttributeError):
                setattr(place, name, ())
        place + "c"
        place & Place("a")
        place.head(1)
        self.assertEqual(place.names, ("a", "b"))

    def test_head(self):
        place = Place("a", "b", "c")
        self.assertEqual([place.head(k).text for k in range(4)], ["/", "/a", "/a/b", "/a/b/c"])
        self.assertEqual(place.head(k=2), Place("a", "b"))
        self.assertEqual(Place().head(0), Place())

    def test_head_refuses_all_but_integers_in_range(self):
        place = Place("a", "b", "c")
        for k in [-1, 4, 100, True, False, None, "1", "", [], (1,), {}, Place()]:
            self.refused(BadPlace, {"value": k}, place.head, k)
        self.refused(BadPlace, {"value": 1}, Place().head, 1)

    def test_equality(self):
        self.assertTrue(Place("a", "b") == Place.read("/a/b"))
        self.assertFalse(Place("a", "b") != Place.read("/a/b"))
        self.assertFalse(Place("a", "b") == Place("a"))
        self.assertFalse(Place("ab") == Place("a", "b"))
        self.assertTrue(Place() == Place.read("/"))

    def test_a_place_equals_nothing_of_another_kind(self):
        for value in ["/a", ("a",), ["a"], None, True, 0, {}, Table(["r"])]:
            self.assertIs(Place("a") == value, False)
            self.assertIs(Place() == value, False)
            self.assertIs(Place() != value, True)


class Below(Case):
    def test_plus(self):
        self.assertEqual((Place() + "a").text, "/a")
        self.assertEqual((Place("a") + "b" + "c").text, "/a/b/c")

    def test_plus_refuses_what_is_no_name(self):
        for value in NO_NAMES:
            self.refused(BadName, {"value": value}, lambda: Place("a") + value)

    def test_plus_behind_eight_names(self):
        full = Place(*"abcdefgh")
        self.assertEqual((full.up + "z").text, "/a/b/c/d/e/f/g/z")
        self.refused(TooMany, {"most": 8}, lambda: full + "i")
        self.refused(BadName, {"value": "I"}, lambda: full + "I")

    def test_in(self):
        place = Place("a", "b")
        for value in ["/a/b", "/a/b/c", "/a/b/c/d/e/f/g/h", Place("a", "b"), Place("a", "b", "a")]:
            self.assertIs(value in place, True, value)
        for value in ["/", "/a", "/a/bc", "/a/c", "/b/a", "/a/b0", Place(), Place("a"), Place("a", "bb")]:
            self.assertIs(value in place, False, value)

    def test_everything_is_in_the_root(self):
        for value in ["/", "/a", DEEPEST, Place(), Place("x")]:
            self.assertIs(value in Place(), True)

    def test_other_values_are_in_no_place(self):
        for value in NO_PLACES:
            self.assertIs(value in Place(), False)
            self.assertIs(value in Place("a"), False)

    def test_and(self):
        wanted = {("/a/b", "/a/c"): "/a", ("/a/b", "/a/b"): "/a/b", ("/a/b", "/a/b/c"): "/a/b",
                  ("/a", "/b"): "/", ("/", "/a"): "/", ("/a/b/c", "/a/x/c"): "/a", ("/ab", "/a"): "/"}
        for (one, other), text in wanted.items():
            self.same((Place.read(one) & Place.read(other)).text, text)
            self.same((Place.read(other) & Place.read(one)).text, text)

    def test_and_is_the_last_place_at_or_above_both(self):
        texts = ["/", "/a", "/a/a", "/a/b", "/ab", "/a/b/c", "/a/b/d", "/b"]
        for one, other in product(texts, texts):
            both = [text for text in texts if one in Place.read(text) and other in Place.read(text)]
            self.same((Place.read(one) & Place.read(other)).text, max(both))

    def test_and_takes_places_alone(self):
        for value in [*NO_PLACES, "/a", "/"]:
            self.refused(BadPlace, {"value": value}, lambda: Place("a") & value)


class Order(Case):
    def test_figures_and_letters(self):
        ordered = ["/", "/a", "/a/b", "/a0", "/ab"]
        for at, one in enumerate(ordered):
            for other_at, other in enumerate(ordered):
                self.assertIs(Place.read(one).is_ahead(Place.read(other)), at < other_at)

    def test_the_order_is_that_of_the_names_and_of_the_texts(self):
        names = ["0", "00", "a", "a0", "ab", "b"]
        places = [Place(*row) for size in range(3) for row in product(names, repeat=size)]
        for one, other in product(places, places):
            self.assertIs(one.is_ahead(other), one.names < other.names)
            self.assertIs(one.is_ahead(b=other), one.text < other.text)

    def test_a_place_comes_ahead_of_those_below_it(self):
        place = Place("a", "b")
        self.assertIs(place.is_ahead(place + "0"), True)
        self.assertIs((place + "0").is_ahead(place), False)
        self.assertIs(place.is_ahead(place), False)

    def test_is_ahead_takes_places_alone(self):
        for value in [*NO_PLACES, "/a", "/"]:
            self.refused(BadPlace, {"value": value}, Place("a").is_ahead, value)


if __name__ == "__main__":
    unittest.main()
