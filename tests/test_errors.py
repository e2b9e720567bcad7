from leapcard import errors
from tests.helpers import LeapTest

ATTRIBUTES = {
    "InvalidRow": "row", "InvalidPlace": "place", "InvalidJump": "text", "InvalidCard": "part",
    "InvalidBoard": "board", "NoJump": "index", "TooMany": "limit", "InvalidMachine": "part",
    "Unlike": "signs", "InvalidPattern": "index", "InvalidTarget": "part", "NotExact": "row",
    "NoMachine": "most", "InvalidMeasure": "measure", "InvalidWeight": "part", "InvalidSight": "sight",
    "InvalidFact": "fact", "OverQuota": "number", "NothingLeft": "count", "InvalidOption": "name",
}


class ErrorsTest(LeapTest):
    def test_there_are_twenty(self):
        self.assertEqual(len(ATTRIBUTES), 20)

    def test_each_error_stands_directly_below_the_base_class(self):
        self.assertEqual(errors.LeapError.__bases__, (ValueError,))
        for name in ATTRIBUTES:
            self.assertEqual(getattr(errors, name).__bases__, (errors.LeapError,), name)

    def test_each_error_holds_its_only_parameter(self):
        for name, attribute in ATTRIBUTES.items():
            for value in ("x", 3, ("stuck", "a."), None):
                error = getattr(errors, name)(value)
                self.assertEqual(vars(error), {attribute: value}, name)
                self.assertEqual(vars(getattr(errors, name)(**{attribute: value})), {attribute: value})
                self.assertIsInstance(str(error), str)
            self.assertRaises(TypeError, getattr(errors, name))
            self.assertRaises(TypeError, getattr(errors, name), 1, 2)
