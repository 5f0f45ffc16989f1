"""What tests share that look at refusals."""

import unittest


class RefusalTest(unittest.TestCase):
    def refused(self, error, fields, tell, *some, **more):
        """A call is refused: by the class itself, with just these fields."""
        with self.assertRaises(error, msg=(some, more)) as caught:
            tell(*some, **more)
        self.assertIs(type(caught.exception), error)
        self.assertEqual(vars(caught.exception), fields)
