import unittest

from tiewebs import errors
from tiewebs.errors import TooGreat, WebError

WITH_TEXT = ["NoWeb", "NoPlace", "NoPlaces", "NoMap", "NoSharing", "NoRoot", "NoNumber", "NotJoined", "NoTie",
             "NoText", "NoLine", "NoDeed"]


class Errors(unittest.TestCase):
    def test_web_error_is_a_value_error(self):
        self.assertEqual(WebError.__bases__, (ValueError,))
        self.assertEqual(str(WebError("why")), "why")

    def test_each_stands_straight_under_web_error(self):
        for name in WITH_TEXT + ["TooGreat"]:
            with self.subTest(name=name):
                self.assertEqual(getattr(errors, name).__bases__, (WebError,))

    def test_each_is_a_class_of_its_own(self):
        kinds = {getattr(errors, name) for name in WITH_TEXT + ["TooGreat", "WebError"]}
        self.assertEqual(len(kinds), len(WITH_TEXT) + 2)
        for name in WITH_TEXT + ["TooGreat", "WebError"]:
            self.assertEqual(getattr(errors, name).__name__, name)

    def test_each_is_made_with_a_text_and_raised(self):
        for name in WITH_TEXT:
            kind = getattr(errors, name)
            with self.subTest(name=name):
                with self.assertRaises(WebError) as caught:
                    raise kind("why")
                self.assertEqual(str(caught.exception), "why")

    def test_too_great_has_its_fields_in_their_order(self):
        with self.assertRaises(WebError) as caught:
            raise TooGreat(9, 7)
        self.assertEqual(caught.exception.many, 9)
        self.assertEqual(caught.exception.most, 7)

    def test_two_of_too_great_have_fields_of_their_own(self):
        one, other = TooGreat(8, 7), TooGreat(15, 14)
        self.assertEqual((one.many, one.most, other.many, other.most), (8, 7, 15, 14))


if __name__ == "__main__":
    unittest.main()
