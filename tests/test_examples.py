"""The examples at the end of the document, as they stand there."""

import doctest
import re
import unittest

EXAMPLES = [
    """
>>> from timerdeque.digits import stations
>>> stations(10, 3, 205)
[(2, 2, 3), (0, 5, 200)]
""",
    """
>>> from timerdeque.digits import side
>>> [side(10, ["stack"], 3, 205), side(10, ["stack"], 203, 205)]
['back', 'front']
""",
    """
>>> from timerdeque.wheel import Wheel
>>> wheel = Wheel(10, ["stack"], start=3)
>>> first = wheel.put(205)
>>> fired = wheel.advance(150)
>>> second = wheel.put(205)
>>> wheel.lists()
[(2, 2, [1, 0])]
""",
    """
>>> from timerdeque.wheel import Wheel
>>> wheel = Wheel(10, ["stack"], start=3)
>>> first = wheel.put(205)
>>> fired = wheel.advance(150)
>>> second = wheel.put(205)
>>> fired = wheel.advance(200)
>>> third = wheel.put(205)
>>> fired = wheel.advance(203)
>>> fourth = wheel.put(205)
>>> [wheel.firing(205), wheel.advance(300)]
[[3, 2, 0, 1], [(205, [3, 2, 0, 1])]]
""",
    """
>>> from timerdeque.wheel import Wheel
>>> wheel = Wheel(10, ["stack"], start=3)
>>> first = wheel.put(205)
>>> fired = wheel.advance(150)
>>> second = wheel.put(205)
>>> fired = wheel.advance(200)
>>> [wheel.lists(), wheel.restoring()]
[[(0, 5, [0, 1])], [(1, 205), (0, 205)]]
""",
    """
>>> from timerdeque.wheel import Wheel
>>> wheel = Wheel(10, ["queue"])
>>> first = wheel.put(100, period=5)
>>> second = wheel.put(105)
>>> wheel.advance(105)
[(100, [0]), (105, [1, 0])]
""",
    """
>>> from timerdeque.moves import costliest, moves_in
>>> [moves_in(10, 0, 1, 100), costliest(10, 0, 1, 100)]
[180, (2, 11)]
""",
    """
>>> from timerdeque.periods import common
>>> [common((1, 4), (3, 6)), common((0, 2), (1, 2))]
[(9, 12), None]
""",
    """
>>> from timerdeque.periods import first_of_two
>>> first_of_two(10, ["stack"], (0, 4), (0, 6), 12)
1
""",
    """
>>> from timerdeque.plans import set_ticks
>>> [set_ticks(10, ["stack"], 0, 205, [1, 0]), set_ticks(10, ["stack"], 0, 205, [0, 2, 1])]
[('ticks', [0, 200]), ('never', 2)]
""",
    """
>>> from timerdeque.plans import told_apart
>>> [told_apart(10, ["queue", "stack"], 10, ["queue"]), told_apart(2, ["queue"], 7, ["queue"])]
[('apart', 10, 0), ('alike',)]
""",
    """
>>> from timerdeque.seen import levels_seen
>>> levels_seen(10, 2, [(0, 12, "front"), (0, 5, "back")])
('levels', ['queue', 'stack'], 1)
""",
    """
>>> from timerdeque.seen import levels_seen
>>> levels_seen(10, 2, [(0, 12, "front"), (0, 5, "back"), (3, 20, "back")])
('none', 3)
""",
    """
>>> from timerdeque.wheel import Wheel
>>> Wheel(1, ["stack"])
raises NoBase
""",
    """
>>> from timerdeque.wheel import Wheel
>>> wheel = Wheel(10, ["stack"], start=5)
>>> wheel.put(5)
raises NoTick
""",
    """
>>> from timerdeque.wheel import Wheel
>>> wheel = Wheel(10, ["stack"])
>>> wheel.cancel(0)
raises NoTimer
""",
    """
>>> from timerdeque.desk import Desk
>>> desk = Desk(10, ["stack"], start=3)
>>> [desk.say("put 205"), desk.say("go 150"), desk.say("put 205"), desk.say("lists"), desk.say("go 300")]
['0', 'nothing', '1', '2.2: 1 0', '205: 0 1']
""",
    """
>>> from timerdeque.wheel import Wheel
>>> wheel = Wheel(10, ["stack", "stack"], start=3)
>>> first = wheel.put(205)
>>> wheel.snapshot()
(10, ['stack'], 3, 1, [(0, 205, None)])
""",
    """
>>> from timerdeque.wheel import Wheel
>>> wheel = Wheel(10, ["stack"], start=3)
>>> first = wheel.put(205)
>>> [wheel.next_event(), wheel.next_firing(), wheel.moves_until(199), wheel.moves_until(200)]
[200, 205, 0, 1]
""",
    """
>>> from timerdeque.periods import order_at
>>> order_at(10, ["stack"], [(0, 4), (0, 6), (0, 3)], 12)
[1, 0, 2]
""",
]


def as_doctest(text):
    """The last line of an example may be "raises" and the name of an error."""
    return re.sub(r"(?m)^raises (\w+)$", r"Traceback (most recent call last):\n\1: ...", text)


class Examples(unittest.TestCase):
    def test_each(self):
        for number, text in enumerate(EXAMPLES):
            with self.subTest(number):
                test = doctest.DocTestParser().get_doctest(as_doctest(text), {}, "DOC.md", "DOC.md", 0)
                runner = doctest.DocTestRunner(verbose=False, optionflags=doctest.IGNORE_EXCEPTION_DETAIL)
                told = []
                results = runner.run(test, out=told.append)
                self.assertGreater(results.attempted, 0)
                self.assertEqual(results.failed, 0, "".join(told))

    def test_a_wrong_error_is_seen(self):
        text = ">>> from timerdeque.wheel import Wheel\n>>> Wheel(1, ['stack'])\nraises NoTick\n"
        test = doctest.DocTestParser().get_doctest(as_doctest(text), {}, "DOC.md", "DOC.md", 0)
        runner = doctest.DocTestRunner(verbose=False, optionflags=doctest.IGNORE_EXCEPTION_DETAIL)
        self.assertEqual(runner.run(test, out=[].append).failed, 1)


if __name__ == "__main__":
    unittest.main()
