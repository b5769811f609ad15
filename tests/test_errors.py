import unittest

from hourring import errors

PLAIN = ["BadTown", "BadDay", "BadDeed", "TooMany", "NoDeed"]
NAMED = ["Twice", "NoNeighbour", "OutOfBounds", "Both"]


class Errors(unittest.TestCase):
    def test_ring_error_is_straight_under_value_error(self):
        self.assertEqual(errors.RingError.__bases__, (ValueError,))

    def test_each_is_straight_under_ring_error(self):
        for word in PLAIN + NAMED:
            with self.subTest(word):
                self.assertEqual(getattr(errors, word).__bases__, (errors.RingError,))

    def test_none_is_caught_as_another(self):
        for word in PLAIN + NAMED:
            for other in PLAIN + NAMED:
                with self.subTest(word=word, other=other):
                    under = issubclass(getattr(errors, word), getattr(errors, other))
                    self.assertEqual(under, word == other)

    def test_each_is_defined_in_errors_under_its_name(self):
        for word in ["RingError"] + PLAIN + NAMED:
            with self.subTest(word):
                kind = getattr(errors, word)
                self.assertEqual((kind.__module__, kind.__name__), ("hourring.errors", word))

    def test_plain_ones_are_made_with_nothing_or_a_text(self):
        for word in ["RingError"] + PLAIN:
            with self.subTest(word):
                kind = getattr(errors, word)
                with self.assertRaises(errors.RingError):
                    raise kind()
                with self.assertRaises(ValueError):
                    raise kind("why")

    def test_named_ones_have_the_field_name(self):
        for word in NAMED:
            for name in ["a", "ann", "abcdefgh"]:
                with self.subTest(word=word, name=name):
                    with self.assertRaises(errors.RingError) as caught:
                        raise getattr(errors, word)(name)
                    self.assertEqual(caught.exception.name, name)

    def test_each_object_has_its_own_name(self):
        for word in NAMED:
            with self.subTest(word):
                kind = getattr(errors, word)
                one, other = kind("ann"), kind("bob")
                self.assertEqual((one.name, other.name), ("ann", "bob"))

    def test_named_ones_need_a_name(self):
        for word in NAMED:
            with self.subTest(word):
                self.assertRaises(TypeError, getattr(errors, word))
