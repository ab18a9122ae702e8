"""Point 100: the errors."""

import unittest

from exactkinds import errors


class Errors(unittest.TestCase):

    def test_the_common_error_is_a_value_error(self):
        self.assertEqual(errors.KindsError.__bases__, (ValueError,))

    def test_the_others_stand_directly_below_it(self):
        for one in (errors.BadText, errors.BadTable, errors.BadProgram, errors.BadJob):
            self.assertEqual(one.__bases__, (errors.KindsError,), one)

    def test_bad_text_keeps_its_line(self):
        for line in (0, 1, 77):
            self.assertEqual(errors.BadText(line).line, line)
            with self.assertRaises(errors.KindsError) as caught:
                raise errors.BadText(line)
            self.assertEqual(caught.exception.line, line)

    def test_the_others_take_no_argument(self):
        for one in (errors.BadTable, errors.BadProgram, errors.BadJob):
            with self.assertRaises(ValueError) as caught:
                raise one()
            self.assertIs(caught.exception.__class__, one)


if __name__ == "__main__":
    unittest.main()
