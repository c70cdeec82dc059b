import copy
import unittest

from tests.things import plain_things
from yesifs import errors
from yesifs.errors import BadTable, Clash, IsRight, NotRight, YesError

WITH_THING = (
    "BadTable BadKind BadTransaction BadFacts BadHistory BadOutcome BadRun BadSite BadCompletion BadStore BadWord "
    "BadConditions BadOperation BadKeys BadLog BadTransactions BadStep BadMany BadState BadMessage BadRows BadOrder "
    "BadScript BadInterleaving BadOrders").split()
PARAMETERS = {**{name: "thing" for name in WITH_THING}, "Clash": "t", "IsOpen": "t", "BadText": "at",
              "NotRight": "certificate"}


class Errors(unittest.TestCase):
    def test_the_base_class(self):
        self.assertEqual(YesError.__bases__, (Exception,))

    def test_each_error_is_a_direct_subclass_defined_in_the_file(self):
        for name in [*PARAMETERS, "IsRight"]:
            with self.subTest(name):
                found = getattr(errors, name)
                self.assertEqual(found.__bases__, (YesError,))
                self.assertEqual((found.__name__, found.__module__), (name, "yesifs.errors"))

    def test_there_are_no_other_errors(self):
        listed = {name for name, found in vars(errors).items() if isinstance(found, type)}
        self.assertEqual(listed, {*PARAMETERS, "IsRight", "YesError"})

    def test_the_parameter_is_an_attribute_whatever_it_is(self):
        for name, parameter in PARAMETERS.items():
            for thing in plain_things():
                with self.subTest(name, thing=thing):
                    by_position = getattr(errors, name)(thing)
                    by_name = getattr(errors, name)(**{parameter: thing})
                    self.assertIs(getattr(by_position, parameter), thing)
                    self.assertIs(getattr(by_name, parameter), thing)

    def test_errors_have_no_other_attributes(self):
        for name, parameter in PARAMETERS.items():
            self.assertEqual(vars(getattr(errors, name)(1)), {parameter: 1})
        self.assertEqual(vars(IsRight()), {})

    def test_the_number_of_parameters(self):
        for name in PARAMETERS:
            with self.assertRaises(TypeError):
                getattr(errors, name)()
            with self.assertRaises(TypeError):
                getattr(errors, name)(1, 2)

    def test_a_parameter_is_not_changed(self):
        thing = [1, {"a": [2]}]
        before = copy.deepcopy(thing)
        BadTable(thing)
        self.assertEqual(thing, before)

    def test_errors_can_be_raised_and_caught(self):
        with self.assertRaises(YesError) as caught:
            raise Clash(3)
        self.assertEqual(caught.exception.t, 3)
        with self.assertRaises(YesError):
            raise IsRight()
        with self.assertRaises(NotRight):
            raise NotRight(certificate=("wrong", 0, ()))


if __name__ == "__main__":
    unittest.main()
