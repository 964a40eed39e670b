"""What the test classes of several files have in common."""

import unittest


class EqualCase(unittest.TestCase):
    """Asks == both ways about, and != too."""

    def alike(self, one, two):
        self.assertIs(one == two, True)
        self.assertIs(two == one, True)
        self.assertIs(one != two, False)

    def unlike(self, one, two):
        self.assertIs(one == two, False)
        self.assertIs(two == one, False)
        self.assertIs(one != two, True)
