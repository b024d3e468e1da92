"""The interface's errors, and point 2 of their classes."""

import unittest

from nearerwork import errors

PLAIN = (
    errors.NoText, errors.TooMany, errors.NoRange, errors.Twice, errors.NoName,
    errors.NoStep, errors.NoRun, errors.NoTie, errors.NoMachine,
)
WITH_FIELDS = (errors.NoAnswer, errors.Unkept, errors.NotNearer, errors.NotFalling)
RUN = (("go", (1, 2)), ("rest", (1, 3)))


class Classes(unittest.TestCase):
    def test_work_error_stands_under_value_error(self):
        self.assertTrue(issubclass(errors.WorkError, ValueError))

    def test_each_stands_under_work_error(self):
        for one in PLAIN + WITH_FIELDS:
            with self.subTest(one=one.__name__):
                self.assertTrue(issubclass(one, errors.WorkError))
                self.assertTrue(issubclass(one, ValueError))
                self.assertIsNot(one, errors.WorkError)

    def test_none_stands_under_another(self):
        for one in PLAIN + WITH_FIELDS:
            for other in PLAIN + WITH_FIELDS:
                if one is not other:
                    with self.subTest(one=one.__name__, other=other.__name__):
                        self.assertFalse(issubclass(one, other))

    def test_all_are_unlike(self):
        self.assertEqual(13, len(set(PLAIN + WITH_FIELDS)))

    def test_each_is_raised_and_taken_by_its_class(self):
        for one in PLAIN:
            with self.subTest(one=one.__name__):
                with self.assertRaises(one):
                    raise one("free words")
                with self.assertRaises(errors.WorkError):
                    raise one()


class Fields(unittest.TestCase):
    def test_no_answer(self):
        self.assertEqual(0, errors.NoAnswer(0).step)
        self.assertEqual(7, errors.NoAnswer(7).step)

    def test_unkept(self):
        error = errors.Unkept(2, RUN)
        self.assertEqual(2, error.number)
        self.assertEqual(RUN, error.run)

    def test_not_nearer(self):
        for verdict in (("start",), ("stop", RUN), ("step", RUN, "go", (1, 1))):
            self.assertEqual(verdict, errors.NotNearer(verdict).verdict)

    def test_not_falling(self):
        error = errors.NotFalling(RUN, "rest", (1, 4))
        self.assertEqual(RUN, error.run)
        self.assertEqual("rest", error.called)
        self.assertEqual((1, 4), error.room)

    def test_fields_are_each_object_s_own(self):
        one, other = errors.Unkept(0, ()), errors.Unkept(1, RUN)
        self.assertEqual((0, ()), (one.number, one.run))
        self.assertEqual((1, RUN), (other.number, other.run))

    def test_fields_are_there_when_taken(self):
        with self.assertRaises(errors.WorkError) as taken:
            raise errors.NotFalling((), "go", ())
        self.assertEqual(((), "go", ()), (taken.exception.run, taken.exception.called, taken.exception.room))


if __name__ == "__main__":
    unittest.main()
