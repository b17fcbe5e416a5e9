"""A test that is broken off when it takes far longer than it should."""

import signal
import unittest


def break_off(_number, _frame):
    raise AssertionError("takes too long")


class TimedTest(unittest.TestCase):
    seconds = 120

    def setUp(self):
        signal.signal(signal.SIGALRM, break_off)
        signal.alarm(self.seconds)

    def tearDown(self):
        signal.alarm(0)
