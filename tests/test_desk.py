"""Tests of fallenbits.desk: points 54, 55 and 2."""

import random
import unittest

from fallenbits.desk import Desk
from fallenbits.errors import FallenError, NoRow
from fallenbits.judge import judge
from fallenbits.texts import show_driver, show_store, show_story
from fallenbits.worths import worths
from tests.runs import some_runs
from tests.samples import NO_TEXTS, texts_of

BEGIN = ("sizes 2", "rule 11 a", "rule ** b", "change a b", "row 11 b fall 0 1", "start 11")


def begun(*lines):
    """Return a desk that has done the lines above and some more, and was refused none of them."""
    desk = Desk()
    told = desk.run(*BEGIN, *lines)
    assert "refused" not in " ".join(told), told
    return desk


class WorkedTest(unittest.TestCase):
    def test_worked_by_hand(self):
        desk = Desk()
        self.assertEqual(desk.run("sizes 2", "rule 11 a", "rule ** b", "change a b", "row 11 b fall 0 1", "start 11", "cut 01",
                                  "ask b", "stands", "judge 11 1"),
                         ["ok", "ok", "ok", "ok", "ok", "ok", "ok", "refused Cut", "01 b", "closed 5"])
        with self.assertRaises(NoRow):
            desk.run("worth 11", "rule 1 c", "judge")
        self.assertEqual(desk.run("read 00", "stands"), ["b", "01 b"])


class LineTest(unittest.TestCase):
    def test_read(self):
        desk = begun("sizes 1 1", "rule 1.1 a", "rule *.0 b")
        self.assertEqual(desk.run("read 1.1", "read 1.0", "read 0.0", "read 0.1"), ["a", "b", "b", "nothing"])
        self.assertEqual(desk.run("read 11", "read 1.", "read ", "read x", "read 1.1.1"),
                         ["refused Unlike", "refused NoPattern", "refused NoPattern", "refused NoPattern", "refused Unlike"])

    def test_worth(self):
        desk = begun("sizes 3", "rule 111 a", "rule 000 b", "rule **0 b", "change a b", "change b a")
        self.assertEqual(desk.run("worth 111", "worth 111 falls", "worth 110", "worth 110 falls", "worth 100", "worth 101", "worth 011 falls"),
                         ["ever", "1", "ever", "0", "0", "nothing", "nothing"])
        self.assertEqual(desk.run("worth 1", "worth 1 falls", "worth 1x1", "worth 11.1"),
                         ["refused Unlike", "refused Unlike", "refused NoPattern", "refused Unlike"])

    def test_judge(self):
        desk = begun()
        self.assertEqual(desk.run("judge 11", "judge 11 0", "judge 11 1", "judge 11 7", "judge 01"),
                         ["closed 5", "closed 1", "closed 5", "closed 5", "closed 1"])
        desk.run("sizes 2", "rule 11 a", "rule 01 a", "rule 10 c", "rule 00 b", "change a b", "change b a", "row 1* b fall 0 1")
        self.assertEqual(desk.run("judge 11"), ["third: ask b, cut 10"])
        self.assertEqual(desk.run("judge 00"), ["strand: ask a"])
        desk.run("row 11 - fall 0", "row 01 - erase 0", "sizes 1", "rule 1 a", "judge 0")
        self.assertEqual(desk.run("judge 0", "judge 0 3"), ["nothing: none", "nothing: none"])
        desk = begun("row 01 - erase 0", "sizes 2", "rule ** a", "row 11 - fall 0", "row 01 - erase 0")
        self.assertEqual(desk.run("judge 11", "judge 01 0"), ["ring: done, done", "ring: done, done"])
        self.assertEqual(desk.run("judge 1", "judge 1x 3", "judge 1.1 7"), ["refused Unlike", "refused NoPattern", "refused Unlike"])

    def test_against_the_judge_and_the_worths(self):
        for store, driver, start in some_runs(1, 60, [(2,), (1, 1), (3,), (2, 1)]):
            desk = Desk()
            rows = [] if not driver.rows() else show_driver(driver).split("\n")
            self.assertEqual(set(desk.run(*show_store(store).split("\n"), *rows)), {"ok"})
            for changes in (None, 0, 2):
                kind, found = judge(store, driver, start, changes)
                told = f"closed {len(found)}" if kind == "closed" else f"{kind}: " + show_story(found).replace("\n", ", ")
                self.assertEqual(desk.say(f"judge {start}" if changes is None else f"judge {start} {changes}"), told)
            for x in texts_of(store.sizes):
                self.assertEqual(desk.say("read " + x), store.read(x) or "nothing")
                for line, erases in (("worth " + x, True), ("worth " + x + " falls", False)):
                    rank = worths(store, erases)[x]
                    self.assertEqual(desk.say(line), "nothing" if rank is None else str(rank))

    def test_start_and_stands(self):
        desk = begun()
        self.assertEqual(desk.run("stands", "start 01", "stands", "start 1", "start 1.1", "start x1", "stands"),
                         ["11 a", "ok", "01 b", "refused Unlike", "refused Unlike", "refused NoPattern", "01 b"])
        self.assertEqual(begun("sizes 1 1", "start 1.0").run("stands"), ["1.0 nothing"])

    def test_wake_and_ask(self):
        desk = begun("row 00 - erase 0")
        self.assertEqual(desk.run("wake", "ask c", "ask a", "ask ", "stands"), ["0", "refused NoState", "refused NoState",
                                                                              "refused NoState", "11 a"])
        # The quiet write leads from b to a.
        self.assertEqual(desk.run("ask b", "stands", "wake", "stands"), ["1", "00 b", "refused Stranded", "11 a"])
        desk = begun("sizes 3", "rule 111 a", "rule *** b", "change a b", "change b a", "row 011 - fall 1 2", "row 000 a erase 0",
                     "row 111 b fall 0", "start 111")
        self.assertEqual(desk.run("ask b", "stands", "ask a", "stands", "wake", "stands"), ["1", "011 b", "2", "111 a", "0", "111 a"])
        self.assertEqual(desk.run("start 001", "ask a", "stands", "start 011", "wake", "stands"),
                         ["ok", "refused Stranded", "001 b", "ok", "1", "000 b"])

    def test_cut(self):
        desk = begun()
        self.assertEqual(desk.run("cut 01", "cut 1", "cut x1", "ask b", "stands", "ask b"),
                         ["ok", "refused Unlike", "refused NoPattern", "refused Cut", "01 b", "refused NoState"])
        desk = begun("sizes 2", "rule 11 a", "rule ** b", "change a b", "row 11 b fall 0", "start 11")
        self.assertEqual(desk.run("cut 10", "ask b", "stands", "ask b", "stands"), ["ok", "refused NotInBox", "11 a", "1", "01 b"])
        desk = begun("cut 01", "start 11")
        # The new device has no failure armed.
        self.assertEqual(desk.run("ask b", "stands"), ["1", "00 b"])

    def test_a_wish_in_three_ways(self):
        for wish in ("-", ""):
            desk = begun("sizes 2", "rule ** a", "row 11 " + wish + " fall 0", "start 11")
            self.assertEqual(desk.run("wake", "stands"), ["1", "01 a"])
        desk = begun("sizes 2", "rule 1* a", "rule 0* b", "change a b", "row 11 b fall 0", "start 11")
        self.assertEqual(desk.run("wake", "ask b"), ["0", "1"])


class NoRowTest(unittest.TestCase):
    WRONG = [
        "", " ", "size 2", "Sizes 2", "sizes", "sizes ", "sizes 2 ", " sizes 2", "sizes  2", "sizes x", "sizes 02", "sizes 1000", "sizes -1",
        "sizes 2\n", "sizes 2\n2", "rule", "rule 11", "rule 11 a ", "rule 11 a b", "rule  11 a", " rule 11 a", "change", "change a",
        "change a b c", "change a b ", "row", "row 11", "row 11 b", "row 11 b fall", "row 11 b erase", "row 11 b rise 0", "row 11 b fall x",
        "row 11 b fall 00", "row 11 b fall 0 ", "row 11 b fall  0", "row 11 b erase 0 1", "row 11 b erase 01", "row 11 b erase ", "row 11 fall 0",
        "row 11 b erase 1000", "read", "read 11 ", "read 1 1", "worth", "worth 11 rises", "worth 11 falls falls", "worth 11 ", "worth 11 Falls",
        "worth  11", "judge", "judge 11 x", "judge 11 8", "judge 11 07", "judge 11 10", "judge 11 ", "judge 11 1 1", "judge 11 -1", "start",
        "start 11 0", "stands ", "stands now", "cut", "cut 11 ", "wake ", "wake up", "ask", "ask b c", "ask b ", "run", "none", "?", "stop",
        "\tstands", "stands\n", "STANDS", "judge 11 \u0661"]

    def test_no_line(self):
        for thing in [*NO_TEXTS, *self.WRONG]:
            for desk in (Desk(), begun(), begun("sizes 2")):
                with self.assertRaises(NoRow):
                    desk.say(thing)
                with self.assertRaises(NoRow):
                    desk.run(thing)

    def test_what_was_there_stays(self):
        desk = begun()
        for thing in [*NO_TEXTS, *self.WRONG]:
            with self.assertRaises(NoRow):
                desk.say(thing)
        self.assertEqual(desk.run("stands", "judge 11 1", "read 10"), ["11 a", "closed 5", "b"])

    def test_run_stops_there(self):
        desk = Desk()
        with self.assertRaises(NoRow):
            desk.run("sizes 1", "rule 1 a", "start 1", "?", "start 0")
        self.assertEqual(desk.run("stands"), ["1 a"])
        self.assertEqual(desk.run(), [])

    def test_a_word_may_be_anything(self):
        desk = begun()
        self.assertEqual(desk.run("read 11\n", "rule 11 A", "rule 11 ", "rule  a", "change  b", "start 11\t", "ask ask", "cut cut"),
                         ["refused NoPattern", "refused NoStore", "refused NoStore", "refused NoStore", "refused NoStore",
                          "refused NoPattern", "refused NoState", "refused NoPattern"])


class KeptTest(unittest.TestCase):
    LINES = ["rule 1 a", "change a b", "row 1 a fall 0", "row 1 a erase 0", "read 1", "worth 1", "worth 1 falls", "judge 1", "judge 1 3",
             "start 1", "stands", "cut 1", "wake", "ask b"]

    def test_before_the_first_sizes(self):
        desk = Desk()
        for line in self.LINES:
            self.assertEqual(desk.say(line), "refused NoStore")
        self.assertEqual(desk.run("sizes 0", "sizes 7", "sizes 1 1 1 1"), ["refused NoStore"] * 3)
        for line in self.LINES:
            self.assertEqual(desk.say(line), "refused NoStore")
        self.assertEqual(desk.run("sizes 1", "read 1", "stands"), ["ok", "nothing", "no device"])

    def test_no_device(self):
        desk = Desk()
        desk.run("sizes 1", "rule 1 a")
        for line in ("stands", "cut 1", "cut x", "cut 11", "cut ", "wake", "ask b", "ask ?", "ask "):
            self.assertEqual(desk.say(line), "no device")
        self.assertEqual(desk.run("start 11", "stands", "start 1", "stands"), ["refused Unlike", "no device", "ok", "1 a"])

    def test_sizes_a_second_time(self):
        desk = begun("row 00 - erase 0")
        self.assertEqual(desk.run("sizes 2"), ["ok"])
        self.assertEqual(desk.run("read 11", "stands", "start 11", "wake", "ask b", "worth 11", "judge 11", "rule ** a", "judge 11", "judge 00"),
                         ["nothing", "no device", "ok", "refused Stranded", "refused Stranded", "nothing", "nothing: none", "ok",
                          "closed 1", "closed 1"])

    def test_sizes_that_are_refused(self):
        desk = begun()
        self.assertEqual(desk.run("sizes 0", "sizes 7", "sizes 3 4", "sizes 1 1 1 1", "stands", "judge 11 1", "read 11"),
                         ["refused NoStore"] * 4 + ["11 a", "closed 5", "a"])

    def test_what_is_refused_is_not_kept(self):
        desk = begun()
        for line, told in (("rule 1 c", "NoStore"), ("rule 1x c", "NoStore"), ("change a a", "NoStore"), ("change a b", "NoStore"),
                           ("row 1 b fall 0", "NoDriver"), ("row 11 b fall 2", "NoDriver"), ("row 11 b fall 1 0", "NoDriver"),
                           ("row 11 B fall 0", "NoDriver"), ("row 11 -- fall 0", "NoDriver"), ("row 11 b erase 1", "NoDriver"),
                           ("row 11 b fall 999", "NoDriver"), ("start 1", "Unlike"), ("start 2", "NoPattern")):
            self.assertEqual(desk.say(line), "refused " + told)
        self.assertEqual(desk.run("stands", "judge 11 1", "rule 00 c", "change b a", "row ** a erase 0", "judge 11 1"),
                         ["11 a", "closed 5", "ok", "ok", "ok", "closed 5"])

    def test_rules_and_changes_behind_rows(self):
        desk = begun("rule 10 c")
        # The rule ** b comes first.
        self.assertEqual(desk.run("read 10", "judge 11 1"), ["b", "closed 5"])
        desk = Desk()
        self.assertEqual(desk.run("sizes 2", "row 11 b fall 0", "start 11", "judge 11", "rule 11 a", "judge 11", "change a b", "judge 11",
                                  "rule 0* b", "judge 11", "stands", "ask b", "stands"),
                         ["ok", "ok", "ok", "nothing: none", "ok", "closed 1", "ok", "nothing: ask b, done", "ok", "closed 3", "11 a", "1", "01 b"])

    def test_the_driver_is_that_of_the_present_store(self):
        desk = begun("sizes 2", "rule 11 a", "rule 0* b", "change a b", "row 11 b fall 0", "start 11", "rule 10 c", "change b c",
                     "row 01 c erase 0", "row 11 c fall 1")
        self.assertEqual(desk.run("ask b", "ask c", "stands", "worth 11", "read 10"), ["1", "refused Stranded", "11 a", "1", "c"])

    def test_too_many(self):
        desk = Desk()
        desk.say("sizes 6")
        self.assertEqual(desk.run(*["rule ****** a"] * 65), ["ok"] * 64 + ["refused NoStore"])
        changes = ["change a b" + str(number) for number in range(17)]
        self.assertEqual(desk.run(*changes), ["ok"] * 16 + ["refused NoStore"])
        self.assertEqual(desk.run(*["row ****** b fall 0"] * 1101), ["ok"] * 1100 + ["refused NoDriver"])
        self.assertEqual(desk.run("read 111111", "row ****** b fall 0"), ["a", "refused NoDriver"])

    def test_the_device_stays_where_it_stands(self):
        desk = begun("row 01 - fall 1", "row 00 - erase 0")
        self.assertEqual(desk.run("cut 01", "ask b", "stands", "wake", "stands"), ["ok", "refused Cut", "01 b", "refused Stranded", "11 a"])

    def test_desks_are_apart(self):
        one, other = begun(), Desk()
        self.assertEqual(other.run("sizes 1", "start 1", "stands"), ["ok", "ok", "1 nothing"])
        self.assertEqual(one.run("stands"), ["11 a"])

    def test_each_answer_is_a_text_or_no_row(self):
        dice = random.Random(2)
        words = ["sizes", "rule", "change", "row", "read", "worth", "judge", "start", "stands", "cut", "wake", "ask"]
        more = ["1", "2", "0", "11", "10", "00", "01", "**", "1*", "a", "b", "-", "", "fall", "erase", "falls", "x y"]
        desk, told = Desk(), 0
        for _ in range(8000):
            line = " ".join([dice.choice(words), *[dice.choice(more) for _ in range(dice.choice([0, 1, 1, 1, 2, 2, 4, 5]))]])
            try:
                self.assertIsInstance(desk.say(line), str)
                told += 1
            except NoRow as error:
                self.assertIsInstance(error, FallenError)
        self.assertGreater(told, 1500)

    def test_a_new_list_each_time(self):
        desk = begun()
        desk.run("read 11").clear()
        self.assertEqual(desk.run("read 11"), ["a"])


if __name__ == "__main__":
    unittest.main()
