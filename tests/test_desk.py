"""Point 19: a desk, its answers, its log and its wheel."""

import inspect
import itertools
import random
import unittest

from pair import LEVELS
from stepwheel import StepWheel
from timerdeque import desk as module
from timerdeque.desk import Desk, replayed
from timerdeque.errors import NoBase, NoLevels, NoPeriod, NoRow, NoTick, NoTimer, TooMany
from timerdeque.wheel import Wheel
from wrong import not_bases, not_commands, not_levels, not_ticks, others

FAR = 10 ** 50
LAST = 10 ** 60 - 1
CHANGING = ("put", "cancel", "reset", "go")


def told(desk, *texts):
    return [desk.say(text) for text in texts]


def filled():
    """A desk with near timers and periodic ones, told by six commands."""
    desk = Desk(10, ["stack"], start=3)
    told(desk, "put 205", "put 15 every 7", "put 205", "put 9", "cancel 3", "reset 0 205")
    return desk


class Interface(unittest.TestCase):
    def test_arguments(self):
        self.assertEqual(str(inspect.signature(Desk)), "(base, levels, *, start=0)")
        self.assertEqual(str(inspect.signature(replayed)), "(base, levels, start, log)")
        for name, arguments in [("say", "(self, text)"), ("log", "(self)"), ("wheel", "(self)")]:
            self.assertEqual(str(inspect.signature(vars(Desk)[name])), arguments)

    def test_defined_in_their_file(self):
        for made in (Desk, replayed):
            self.assertEqual(made.__module__, "timerdeque.desk")
            self.assertIs(getattr(module, made.__name__), made)

    def test_keyword_only(self):
        with self.assertRaises(TypeError):
            Desk(10, ["stack"], 3)

    def test_by_name(self):
        desk = Desk(start=3, levels=["stack"], base=10)
        self.assertEqual(desk.say(text="put 205"), "0")
        again = replayed(log=["put 205"], start=3, levels=["stack"], base=10)
        self.assertTrue(again.wheel() == desk.wheel())

    def test_kinds_of_values(self):
        desk = filled()
        for text in ("put 30", "reset 4 31", "lists", "firing 31", "due 4", "go 40", "cancel 0"):
            self.assertIs(type(desk.say(text)), str)
        self.assertIs(type(desk.log()), list)
        self.assertEqual({type(text) for text in desk.log()}, {str})
        self.assertIs(type(desk.wheel()), Wheel)
        self.assertIs(type(replayed(10, ["stack"], 3, [])), Desk)

    def test_start(self):
        self.assertEqual(Desk(10, ["stack"]).wheel().now(), 0)
        self.assertEqual(Desk(10, ["stack"], start=FAR).wheel().now(), FAR)


class Answers(unittest.TestCase):
    def test_put(self):
        desk = Desk(10, ["stack"])
        self.assertEqual(told(desk, "put 205", "put 5", "put 205", "put 1"), ["0", "1", "2", "3"])
        self.assertEqual(desk.wheel().snapshot(),
                         (10, ["stack"], 0, 4, [(3, 1, None), (1, 5, None), (0, 205, None), (2, 205, None)]))

    def test_put_every(self):
        desk = Desk(10, ["queue"])
        self.assertEqual(told(desk, "put 10 every 7", "put 9", "put 10 every 1"), ["0", "1", "2"])
        self.assertEqual(desk.wheel().snapshot(), (10, ["queue"], 0, 3, [(1, 9, None), (0, 10, 7), (2, 10, 1)]))
        self.assertEqual(desk.say("go 12"), "9: 1; 10: 0 2; 11: 2; 12: 2")

    def test_cancel_and_reset(self):
        desk = filled()
        self.assertEqual(told(desk, "cancel 2", "reset 1 16"), ["ok", "ok"])
        self.assertEqual(desk.wheel().snapshot(), (10, ["stack"], 3, 4, [(1, 16, 7), (0, 205, None)]))
        self.assertEqual(desk.say("put 300"), "4")

    def test_go(self):
        desk = Desk(10, ["stack"], start=3)
        told(desk, "put 205", "go 150", "put 205", "go 200", "put 205", "go 203", "put 205", "put 210")
        self.assertEqual(told(desk, "go 204", "go 300", "go 300"), ["nothing", "205: 3 2 0 1; 210: 4", "nothing"])
        self.assertEqual(desk.wheel().now(), 300)

    def test_go_to_the_present_tick(self):
        self.assertEqual(told(Desk(10, ["stack"]), "go 0", "put 1", "go 0", "go 1", "go 1"),
                         ["nothing", "0", "nothing", "1: 0", "nothing"])

    def test_due(self):
        desk = filled()
        self.assertEqual(told(desk, "due 0", "due 1", "due 2", "go 16", "due 1"), ["205", "15", "205", "15: 1", "22"])

    def test_firing(self):
        desk = filled()
        self.assertEqual(told(desk, "firing 205", "firing 15", "firing 22", "firing 4"), ["2 0", "1", "nothing", "nothing"])
        desk.say("put 205")
        self.assertEqual(desk.say("firing 205"), "2 0 4")

    def test_lists(self):
        desk = Desk(10, ["stack", "queue"])
        self.assertEqual(desk.say("lists"), "empty")
        told(desk, "put 5", "put 5", "put 205", "put 12", "put 205", "put 19")
        self.assertEqual(desk.say("lists"), "0.5: 1 0; 1.1: 3 5; 2.2: 2 4")
        self.assertEqual(told(desk, "go 300", "lists"), ["5: 1 0; 12: 3; 19: 5; 205: 4 2", "empty"])

    def test_greater_digits_and_levels(self):
        desk = Desk(64, ["queue"])
        told(desk, "put 63", f"put {63 * 64 ** 12}", f"put {63 * 64 ** 12 + 1}")
        self.assertEqual(desk.say("lists"), "0.63: 0; 12.63: 1 2")

    def test_far_ticks(self):
        desk = Desk(10, ["stack"])
        told(desk, f"put {LAST}", f"put {FAR} every {FAR}", f"put {LAST}")
        self.assertEqual(desk.say(f"go {2 * FAR}"), f"{FAR}: 1; {2 * FAR}: 1")
        self.assertEqual(told(desk, "due 1", f"firing {LAST}", "cancel 1", f"reset 0 {LAST}"),
                         [str(3 * FAR), "0 2", "ok", "ok"])
        self.assertEqual(desk.say("lists"), "59.9: 0 2")
        self.assertEqual(desk.say(f"go {LAST}"), f"{LAST}: 2 0")

    def test_zero_is_a_number(self):
        desk = Desk(10, ["stack"])
        self.assertEqual(told(desk, "go 0", "put 5", "due 0", "reset 0 6", "cancel 0"), ["nothing", "0", "5", "ok", "ok"])
        for text, error in [("put 0", NoTick), ("firing 0", NoTick), ("put 5 every 0", NoPeriod), ("cancel 0", NoTimer)]:
            with self.assertRaises(error, msg=text):
                desk.say(text)


class WrongCommands(unittest.TestCase):
    def raises_and_changes_nothing(self, desk, error, text):
        wheel, log = desk.wheel(), desk.log()
        with self.assertRaises(error, msg=repr(text)) as caught:
            desk.say(text)
        self.assertIs(type(caught.exception), error, repr(text))
        self.assertTrue(desk.wheel() == wheel, repr(text))
        self.assertEqual(desk.log(), log, repr(text))

    def test_what_is_not_a_command(self):
        desk = filled()
        for text in not_commands():
            self.raises_and_changes_nothing(desk, NoRow, text)
        self.assertEqual(told(desk, "put 20", "lists"), ["4", "1.1: 1; 1.2: 4; 2.2: 0 2"])

    def test_what_is_not_a_command_of_an_empty_desk(self):
        for text in not_commands():
            self.raises_and_changes_nothing(Desk(10, ["stack"]), NoRow, text)

    def test_methods_that_raise(self):
        desk = filled()
        told(desk, "go 10")
        for error, texts in [
                (NoTick, ["put 10", "put 0", "put 9 every 5", "put 10 every 0", "reset 0 10", "reset 1 0", "go 9", "go 0",
                          "firing 10", "firing 9", "firing 0"]),
                (NoPeriod, ["put 11 every 0", f"put {LAST} every 0"]),
                (NoTimer, ["cancel 3", "cancel 4", "cancel 99", "reset 3 11", "reset 4 0", "due 3", "due 4", f"due {FAR}",
                           f"cancel {FAR}", f"reset {FAR} 1"]),
                (TooMany, [f"go {FAR}", f"go {LAST}", f"go {10 + 7 * 2001 + 20}"])]:
            for text in texts:
                self.raises_and_changes_nothing(desk, error, text)
                answers = told(desk, "due 1", "firing 205", "lists")
                self.assertEqual(answers, ["15", "2 0", "0.5: 1; 2.2: 0 2"])
        self.assertEqual(told(desk, "put 11", "go 12", "go 205")[:2], ["4", "11: 4"])

    def test_2000_firings(self):
        desk = Desk(10, ["queue"])
        told(desk, "put 1 every 1")
        self.raises_and_changes_nothing(desk, TooMany, "go 2001")
        answer = desk.say("go 2000")
        self.assertEqual(answer, "; ".join([f"{tick}: 0" for tick in range(1, 2001)]))
        self.raises_and_changes_nothing(desk, TooMany, "go 4001")
        self.assertEqual(told(desk, "due 0", "go 2001", "lists"), ["2001", "2001: 0", "0.2: 0"])
        self.assertEqual(desk.log(), ["put 1 every 1", "go 2000", "go 2001"])

    def test_a_command_that_raises_gives_no_number(self):
        desk = Desk(10, ["queue"], start=5)
        for text, error in [("put 5", NoTick), ("put 6 every 0", NoPeriod), ("put six", NoRow)]:
            self.raises_and_changes_nothing(desk, error, text)
            self.raises_and_changes_nothing(desk, error, text)
        self.assertEqual(desk.say("put 6"), "0")


class Log(unittest.TestCase):
    def test_what_it_holds(self):
        desk = filled()
        said = ["put 205", "put 15 every 7", "put 205", "put 9", "cancel 3", "reset 0 205"]
        self.assertEqual(desk.log(), said)
        told(desk, "go 4", "go 4", "go 20")
        self.assertEqual(desk.log(), said + ["go 4", "go 4", "go 20"])

    def test_commands_that_only_ask(self):
        desk = filled()
        before = desk.log()
        told(desk, "due 0", "firing 205", "firing 206", "lists", "due 1")
        self.assertEqual(desk.log(), before)
        self.assertEqual(told(Desk(10, ["queue"]), "lists", "firing 1"), ["empty", "nothing"])

    def test_failed_commands(self):
        desk = filled()
        before = desk.log()
        for text in ("put 3", "put 20 every 0", "cancel 3", "reset 3 20", "go 2", f"go {FAR}", "due 3", "firing 3", "go", None):
            with self.assertRaises((NoTick, NoPeriod, NoTimer, TooMany, NoRow)):
                desk.say(text)
        self.assertEqual(desk.log(), before)
        desk.say("put 20")
        self.assertEqual(desk.log(), before + ["put 20"])

    def test_an_empty_log(self):
        self.assertEqual(Desk(10, ["queue"]).log(), [])

    def test_the_returned_list_is_new(self):
        desk = filled()
        before = desk.log()
        given = desk.log()
        given.append("put 20")
        del given[0]
        self.assertEqual(desk.log(), before)
        told(desk, "go 4")
        self.assertEqual(len(given), len(before))


class DesksWheel(unittest.TestCase):
    def test_equal(self):
        wheel = Wheel(10, ["stack"], start=3)
        self.assertTrue(Desk(10, ["stack", "stack"], start=3).wheel() == wheel)
        for due, period in [(205, None), (15, 7), (205, None), (9, None)]:
            wheel.put(due, period=period)
        wheel.cancel(3)
        wheel.reset(0, 205)
        desk = filled()
        self.assertTrue(desk.wheel() == wheel)
        self.assertTrue(desk.wheel() == desk.wheel())
        self.assertEqual(desk.say("go 205"), "15: 1; 22: 1; " + "; ".join([f"{tick}: 1" for tick in range(29, 205, 7)])
                         + "; 205: 2 0")
        wheel.advance(205)
        self.assertTrue(desk.wheel() == wheel)

    def test_the_wheel_changed_later(self):
        desk = filled()
        before = desk.wheel().snapshot()
        wheel = desk.wheel()
        wheel.put(50)
        wheel.cancel(0)
        wheel.reset(2, 80)
        wheel.advance(60)
        self.assertEqual(desk.wheel().snapshot(), before)
        self.assertEqual(desk.say("put 20"), "4")
        self.assertEqual(desk.log()[-1], "put 20")

    def test_the_desk_changed_later(self):
        desk = filled()
        wheel = desk.wheel()
        before = wheel.snapshot()
        told(desk, "put 50", "cancel 0", "reset 2 80", "go 60")
        self.assertEqual(wheel.snapshot(), before)
        self.assertEqual(wheel.put(20), 4)

    def test_the_levels_are_copied(self):
        levels = ["queue", "stack"]
        desk = Desk(10, levels)
        levels[0] = "stack"
        levels.append("queue")
        self.assertEqual(desk.wheel().snapshot()[1], ["queue", "stack"])
        self.assertEqual(told(desk, "put 5", "put 5", "firing 5"), ["0", "1", "0 1"])


class Replayed(unittest.TestCase):
    def same(self, one, other):
        self.assertTrue(one.wheel() == other.wheel())
        self.assertEqual(one.wheel().snapshot(), other.wheel().snapshot())
        self.assertEqual(one.log(), other.log())

    def test_a_desk_s_own_log(self):
        desk = filled()
        self.same(replayed(10, ["stack"], 3, desk.log()), desk)
        told(desk, "lists", "go 16", "put 30 every 5", "firing 30", "go 16", "cancel 2", "go 100")
        for _ in range(2):
            with self.assertRaises(NoTick):
                desk.say("put 100")
        again = replayed(10, ["stack", "stack"], 3, desk.log())
        self.same(again, desk)
        self.assertEqual(told(again, "put 300", "go 400"), told(desk, "put 300", "go 400"))
        self.same(again, desk)

    def test_an_empty_log(self):
        desk = replayed(10, ["queue"], 7, [])
        self.same(desk, Desk(10, ["queue"], start=7))
        self.assertEqual(desk.say("put 8"), "0")

    def test_commands_that_only_ask(self):
        desk = replayed(10, ["stack"], 3, ["lists", "put 205", "due 0", "firing 205", "go 150", "lists", "put 205", "lists"])
        self.assertEqual(desk.log(), ["put 205", "go 150", "put 205"])
        self.assertEqual(desk.say("go 300"), "205: 0 1")

    def test_a_new_desk_each_time(self):
        log = filled().log()
        one, other = replayed(10, ["stack"], 3, log), replayed(10, ["stack"], 3, log)
        told(one, "put 20", "go 30")
        self.same(other, filled())
        self.assertEqual(log, filled().log())

    def test_the_log_is_copied(self):
        log = ["put 205", "lists"]
        desk = replayed(10, ["stack"], 3, log)
        log.append("go 300")
        log[0] = "put 206"
        self.assertEqual(desk.log(), ["put 205"])
        told(desk, "go 4")
        self.assertEqual(log, ["put 206", "lists", "go 300"])

    def test_a_bad_command_raises_its_error(self):
        for bad, error in [("put 3", NoTick), ("put 20 every 0", NoPeriod), ("cancel 9", NoTimer), ("due 9", NoTimer),
                           ("firing 3", NoTick), (f"go {FAR}", TooMany), ("go  5", NoRow), ("", NoRow), (None, NoRow), (5, NoRow),
                           (["go 5"], NoRow), (b"go 5", NoRow), (True, NoRow)]:
            for log in ([*filled().log(), bad], [*filled().log(), bad, "go 20"], [*filled().log(), bad, "none", 5]):
                before = list(log)
                with self.assertRaises(error, msg=repr(bad)):
                    replayed(10, ["stack"], 3, log)
                self.assertEqual(log, before)

    def test_the_first_bad_command_tells(self):
        with self.assertRaises(NoTimer):
            replayed(10, ["stack"], 3, ["cancel 0", "put 3", "none"])
        with self.assertRaises(NoRow):
            replayed(10, ["stack"], 3, ["put 5", "none", "put 3", "cancel 7"])

    def test_what_is_not_a_list(self):
        for log in others() + [None, 0, ("put 205",), "put 205", "", {"put 205": 0}, {"put 205"}, iter(["put 205"]),
                               Desk(10, ["stack"])]:
            with self.assertRaises(NoRow, msg=repr(log)):
                replayed(10, ["stack"], 3, log)

    def test_the_first_wrong_argument_tells(self):
        for wrong in (None, [], True, -1, {}, ["go"], "go 5"):
            for at, error in enumerate([NoBase, NoLevels, NoTick]):
                given = [10, ["stack"], 3, []][:at] + [wrong] * (4 - at)
                with self.assertRaises(error, msg=repr(given)):
                    replayed(*given)
                with self.assertRaises(error, msg=repr(given)):
                    Desk(*given[:2], start=given[2])

    def test_wrong_arguments(self):
        for base in not_bases():
            for make in (lambda: Desk(base, ["stack"]), lambda: replayed(base, ["stack"], 0, None)):
                self.assertRaises(NoBase, make)
        for levels in not_levels():
            for make in (lambda: Desk(10, levels), lambda: replayed(10, levels, 0, None)):
                self.assertRaises(NoLevels, make)
        for start in not_ticks():
            for make in (lambda: Desk(10, ["stack"], start=start), lambda: replayed(10, ["stack"], start, ["bad"])):
                self.assertRaises(NoTick, make)

    def test_levels_and_log_are_not_changed(self):
        levels, log = ["queue", "stack", "stack"], ["put 5", "lists", "go 7"]
        replayed(10, levels, 0, log)
        self.assertEqual((levels, log), (["queue", "stack", "stack"], ["put 5", "lists", "go 7"]))


class Steps(unittest.TestCase):
    """A desk beside a wheel that goes through the ticks."""

    def one_text(self, source, desk, ahead):
        timers = self.steps.timers() or [0]
        tick = self.steps.tick + source.randint(0, ahead)
        timer = source.choice(timers + [self.steps.following])
        return source.choice([f"put {tick}", f"put {tick}", f"put {tick} every {source.randint(0, 9)}", f"cancel {timer}",
                              f"reset {timer} {tick}", f"go {tick}", f"due {timer}", f"firing {tick}", "lists"])

    def expected(self, text):
        """The answer, or the error, and whether the command is logged."""
        word, *numbers = [int(part) if part.isdigit() else part for part in text.split(" ")]
        steps = self.steps
        if word in ("cancel", "reset", "due") and numbers[0] not in steps.dues:
            return NoTimer
        if word in ("put", "reset", "firing") and numbers[word == "reset"] <= steps.tick:
            return NoTick
        if word == "put" and numbers[-1] == 0:
            return NoPeriod
        if word == "put":
            return str(steps.put(numbers[0], numbers[2] if len(numbers) == 3 else None))
        if word == "go":
            return "; ".join(f"{tick}: {' '.join(map(str, row))}" for tick, row in steps.advance(numbers[0])) or "nothing"
        if word == "due":
            return str(steps.dues[numbers[0]])
        if word == "lists":
            return "; ".join(f"{level}.{digit}: {' '.join(map(str, row))}" for level, digit, row in steps.lists()) or "empty"
        if word == "firing":
            ahead = dict(steps.copy(periodic=False).advance(numbers[0]))
            return " ".join(map(str, ahead.get(numbers[0], []))) or "nothing"
        getattr(steps, word)(*numbers)
        return "ok"

    def test_random_commands(self):
        source = random.Random(25)
        for base, levels in itertools.product((2, 3, 10), LEVELS):
            start = source.choice([0, 5, 98])
            desk, self.steps, log = Desk(base, levels, start=start), StepWheel(base, levels, start), []
            for _ in range(150):
                text = self.one_text(source, desk, source.choice([4, 30, 120]))
                answer = self.expected(text)
                if isinstance(answer, str):
                    self.assertEqual(desk.say(text), answer, text)
                    log += [text] if text.split(" ")[0] in CHANGING else []
                else:
                    self.assertRaises(answer, desk.say, text)
            self.assertEqual(desk.log(), log)
            self.assertEqual(desk.wheel().lists(), self.steps.lists())
            again = replayed(base, levels, start, log)
            self.assertTrue(again.wheel() == desk.wheel())
            self.assertEqual(again.log(), log)


if __name__ == "__main__":
    unittest.main()
