"""The examples at the end of the document, as they stand there."""

import doctest
import unittest

EXAMPLES = [
    """
>>> from timerdeque.digits import stations
>>> stations(10, 3, 205)
[(2, 2, 3), (0, 5, 200)]
""",
    """
>>> from timerdeque.digits import side
>>> [side(10, ["stack"], 3, 205), side(10, ["stack"], 203, 205)]
['back', 'front']
""",
    """
>>> from timerdeque.wheel import Wheel
>>> wheel = Wheel(10, ["stack"], start=3)
>>> first = wheel.put(205)
>>> fired = wheel.advance(150)
>>> second = wheel.put(205)
>>> wheel.lists()
[(2, 2, [1, 0])]
""",
    """
>>> from timerdeque.wheel import Wheel
>>> wheel = Wheel(10, ["stack"], start=3)
>>> first = wheel.put(205)
>>> fired = wheel.advance(150)
>>> second = wheel.put(205)
>>> fired = wheel.advance(200)
>>> third = wheel.put(205)
>>> fired = wheel.advance(203)
>>> fourth = wheel.put(205)
>>> [wheel.firing(205), wheel.advance(300)]
[[3, 2, 0, 1], [(205, [3, 2, 0, 1])]]
""",
    """
>>> from timerdeque.wheel import Wheel
>>> wheel = Wheel(10, ["stack"], start=3)
>>> first = wheel.put(205)
>>> fired = wheel.advance(150)
>>> second = wheel.put(205)
>>> fired = wheel.advance(200)
>>> [wheel.lists(), wheel.restoring()]
[[(0, 5, [0, 1])], [(1, 205), (0, 205)]]
""",
    """
>>> from timerdeque.wheel import Wheel
>>> wheel = Wheel(10, ["queue"])
>>> first = wheel.put(100, period=5)
>>> second = wheel.put(105)
>>> wheel.advance(105)
[(100, [0]), (105, [1, 0])]
""",
]


class Examples(unittest.TestCase):
    def test_each(self):
        for number, text in enumerate(EXAMPLES):
            with self.subTest(number):
                test = doctest.DocTestParser().get_doctest(text, {}, "DOC.md", "DOC.md", 0)
                told = []
                results = doctest.DocTestRunner(verbose=False).run(test, out=told.append)
                self.assertGreater(results.attempted, 0)
                self.assertEqual(results.failed, 0, "".join(told))


if __name__ == "__main__":
    unittest.main()
