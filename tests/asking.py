"""How the tests ask: what is refused, and with what; what is answered at once; what stays as it was."""

import copy
import signal
import unittest

from gaugewright.errors import GaugeError

LONGEST = 20  # seconds: far more than any question needs, far less than a walk through all sets would take


class NotAtOnce(BaseException):
    pass


def ring(number, frame):
    raise NotAtOnce()


def refusal_of(test, call, *handed):
    with test.assertRaises(GaugeError) as caught:
        call(*handed)
    return caught.exception


class Asking(unittest.TestCase):
    def setUp(self):
        signal.signal(signal.SIGALRM, ring)

    def assert_refused(self, kind, fields, call, *handed):
        refused = refusal_of(self, call, *handed)
        self.assertIs(type(refused), kind)
        self.assertEqual(vars(refused), fields)

    def at_once(self, call, *handed):
        signal.alarm(LONGEST)
        try:
            return call(*handed)
        finally:
            signal.alarm(0)

    def assert_unchanged(self, call, *handed):
        kept = copy.deepcopy(handed)
        told = call(*handed)
        self.assertEqual(handed, kept)
        return told

    def assert_told_anew(self, call, *handed):
        told = call(*handed)
        kept = copy.deepcopy(told)
        told.reverse()
        told.append(None)
        self.assertEqual(call(*handed), kept)

    def assert_same_again(self, questions):
        first = [copy.deepcopy(ask()) for ask in questions]
        self.assertEqual([ask() for ask in reversed(questions)], first[::-1])
        self.assertEqual([ask() for ask in questions], first)
