"""Tests of fallenbits.texts: points 52, 53 and 2."""

import random
import re
import unittest

from fallenbits.drivers import Driver
from fallenbits.errors import NoDriver, NoStore, NoText
from fallenbits.judge import judge
from fallenbits.stores import Store
from fallenbits.texts import read_driver, read_store, read_story, show_driver, show_store, show_story
from tests.runs import NAMES, some_driver, some_runs, some_store
from tests.samples import NO_TEXTS

STORE = Store([2], [("10", "b"), ("**", "a")], [("a", "b")])
DRIVER = Driver(STORE, [("11", "", ("fall", (0, 1))), ("0*", "b", ("erase", 0))])
PAIR = Store([3, 3], [("10*.1*1", "name")], [("name", "other")])

NUMBER, NAME, MASK = "(?:0|[1-9][0-9]{0,2})", "[a-z0-9-]+", "[10*.]+"
SIZES = re.compile(f"sizes(?: {NUMBER})+")
RULE = re.compile(f"rule {MASK} {NAME}")
CHANGE = re.compile(f"change {NAME} {NAME}")
ROW = re.compile(f"row {MASK} {NAME} (?:fall(?: {NUMBER})+|erase {NUMBER})")
EVENT = re.compile(f"ask {NAME}|done|cut [10.]+")


def store_fault(text):
    """Return the number of the first line that cannot stand in the text of a store, or None, by the words of point 52."""
    stage = 0
    for number, line in enumerate(text.split("\n")):
        if number == 0:
            right = SIZES.fullmatch(line)
        else:
            right = (stage == 0 and RULE.fullmatch(line)) or CHANGE.fullmatch(line)
            stage = 1 if CHANGE.fullmatch(line) else stage
        if not right:
            return number
    return None


def list_fault(form, text):
    """Return the number of the first line that cannot stand in a text of lines of a form, or None."""
    lines = text.split("\n")
    if lines[0] == "none":
        return 1 if len(lines) > 1 else None
    for number, line in enumerate(lines):
        if not form.fullmatch(line):
            return number
    return None


def changed(dice, text):
    """Return a text that is changed somewhere by dice."""
    signs = " \n-*.01234567890azAZ_\t"
    for _ in range(dice.randint(1, 2)):
        at = dice.randrange(len(text) + 1)
        kind = dice.randrange(4)
        if kind == 0:
            text = text[:at] + dice.choice(signs) + text[at:]
        elif kind == 1:
            text = text[:at] + text[at + 1:]
        elif kind == 2:
            lines = text.split("\n")
            lines.insert(dice.randrange(len(lines) + 1), dice.choice(lines + ["none", "done", "sizes 1", "rule 1 a", "change a b"]))
            text = "\n".join(lines)
        else:
            words = text.split(" ")
            del words[dice.randrange(len(words))]
            text = " ".join(words)
    return text


class ShowTest(unittest.TestCase):
    def test_worked_by_hand(self):
        self.assertEqual(show_store(STORE).split("\n"), ["sizes 2", "rule 10 b", "rule ** a", "change a b"])
        self.assertEqual(show_driver(DRIVER).split("\n"), ["row 11 - fall 0 1", "row 0* b erase 0"])
        self.assertEqual(read_story("ask b\ncut 10\ndone"), [("ask", "b"), ("cut", "10"), ("done",)])

    def test_stores(self):
        self.assertEqual(show_store(PAIR), "sizes 3 3\nrule 10*.1*1 name\nchange name other")
        self.assertEqual(show_store(Store([1, 2, 3], [], [])), "sizes 1 2 3")
        self.assertEqual(show_store(Store([6], [], [("b", "a"), ("a", "b")])), "sizes 6\nchange b a\nchange a b")
        dice = random.Random(1)
        for sizes in [(1,), (2,), (1, 2), (3, 3), (2, 2, 2), (6,)]:
            for _ in range(10):
                store = some_store(dice, sizes)
                text = show_store(store)
                again = read_store(text)
                self.assertEqual(again, store)
                self.assertEqual((again.rules(), again.changes(), again.sizes), (store.rules(), store.changes(), sizes))
                self.assertEqual(show_store(again), text)
                self.assertIsNone(store_fault(text))

    def test_drivers(self):
        self.assertEqual(show_driver(Driver(STORE, [])), "none")
        self.assertEqual(read_driver(STORE, "none").rows(), [])
        self.assertEqual(read_driver(STORE, "row 1* - fall 0").rows(), [("1*", "", ("fall", (0,)))])
        none = Driver(STORE, [("**", "none", ("erase", 0))])
        self.assertEqual(show_driver(none), "row ** none erase 0")
        self.assertEqual(read_driver(STORE, show_driver(none)).rows(), none.rows())
        self.assertEqual(show_driver(Driver(PAIR, [("***.***", "a-b-2", ("fall", (0, 3, 5)))])), "row ***.*** a-b-2 fall 0 3 5")
        dice = random.Random(2)
        for sizes in [(1,), (2,), (1, 2), (3, 3), (2, 2, 2), (6,)]:
            for many in (0, 1, 5, 20):
                store = some_store(dice, sizes)
                driver = some_driver(dice, store, many)
                text = show_driver(driver)
                again = read_driver(store, text)
                self.assertEqual(again.rows(), driver.rows())
                self.assertEqual(show_driver(again), text)
                self.assertIsNone(list_fault(ROW, text))

    def test_a_thousand_rows(self):
        driver = some_driver(random.Random(3), PAIR, 1100)
        text = show_driver(driver)
        self.assertGreater(len(text), 5000)
        self.assertEqual(read_driver(PAIR, text).rows(), driver.rows())

    def test_stories(self):
        self.assertEqual(show_story([]), "none")
        self.assertEqual(read_story("none"), [])
        self.assertEqual(show_story([("ask", "none"), ("done",), ("cut", "10.1")]), "ask none\ndone\ncut 10.1")
        for store, driver, start in some_runs(4, 60, [(2,), (1, 1), (3,)]):
            kind, events = judge(store, driver, start)
            if kind != "closed":
                text = show_story(events)
                self.assertEqual(read_story(text), events)
                self.assertEqual(show_story(read_story(text)), text)
        long = [("ask", "a"), ("cut", "11.11")] * 700
        self.assertEqual(read_story(show_story(long)), long)

    def test_a_new_list_each_time(self):
        text = "ask b\ndone"
        read_story(text).clear()
        self.assertEqual(len(read_story(text)), 2)
        events = [("done",)]
        show_story(events)
        self.assertEqual(events, [("done",)])


class ReadTest(unittest.TestCase):
    def refused(self, line, call, *given):
        with self.assertRaises(NoText) as caught:
            call(*given)
        self.assertEqual(caught.exception.line, line, given)

    def read_row(self, text):
        return read_driver(STORE, text)

    def test_no_text(self):
        for thing in NO_TEXTS:
            for call in (read_store, read_story, self.read_row):
                self.refused(0, call, thing)

    def test_an_empty_text(self):
        for call in (read_store, read_story, self.read_row):
            self.refused(0, call, "")
            self.refused(0, call, "\n")
            self.refused(0, call, " ")

    def test_none(self):
        self.refused(0, read_store, "none")
        for call in (read_story, self.read_row):
            self.refused(1, call, "none\n")
            self.refused(1, call, "none\nnone")
            self.refused(1, call, "none\n???")
            for text in ("none ", " none", "None", "none none", "-"):
                self.refused(0, call, text)
        self.refused(1, read_driver, STORE, "none\nrow 11 - erase 0")
        self.refused(1, read_driver, STORE, "row 11 - erase 0\nnone")
        self.refused(1, read_story, "done\nnone")

    def test_stores(self):
        for line in ("sizes", "sizes ", "size 2", "Sizes 2", "sizes 02", "sizes 2 ", " sizes 2", "sizes  2", "sizes 2  2", "sizes a",
                     "sizes 1000", "sizes -1", "sizes 2,2", "sizes +1", "sizes 1_0", "sizes\t2", "sizes 2\t", "sizes 00", "sizes 2 x",
                     "rule 1 a", "change a b", "sizes 2\r", "sizes \u0662", "sizes \u00b2"):
            self.refused(0, read_store, line)
            self.refused(0, read_store, line + "\nrule 1* a")
            self.refused(0, read_store, line + "\n?")
        for line in ("rule", "rule 1*", "rule 1* a b", "rule 1* a ", " rule 1* a", "rule  1* a", "rule 1*  a", "rule 1x a", "rule 1* A",
                     "rule 1* a_b", "rule 1* ", "rule a 1*", "rules 1* a", "change a", "change a b c", "change a  b", "change A b",
                     "change a b ", "change a b_", "sizes 2", "none", "", "?", "rule 1* \u00e4", "row ** - erase 0", "change a.b c"):
            for ahead in ("sizes 2", "sizes 2\nrule 1* a", "sizes 2\nrule 1* a\nrule ** b", "sizes 2\nchange a b"):
                many = len(ahead.split("\n"))
                self.refused(many, read_store, ahead + "\n" + line)
                self.refused(many, read_store, ahead + "\n" + line + "\n?")
        self.refused(2, read_store, "sizes 2\nchange a b\nrule 1* a")
        self.refused(4, read_store, "sizes 2\nrule 1* a\nchange a b\nchange b a\nrule ** b\nsizes 2")

    def test_drivers(self):
        for line in ("row", "row 1*", "row 1* -", "row 1* - fall", "row 1* - erase", "row 1* - fall ", "row 1* - fall 0 ", "row 1* - fall 00",
                     "row 1* - fall 01", "row 1* - fall 1000", "row 1* - fall 0  1", "row 1* - erase 0 1", "row 1* - erase 01",
                     "row 1* - erase x", "row 1* - rise 0", "row 1* - Fall 0", "row 1* fall 0", "row - 1* fall 0", "row 1x - fall 0",
                     "row 1*  fall 0", "row 1* A fall 0", "row 1* a_ fall 0", "rows 1* - fall 0", " row 1* - fall 0", "row  1* - fall 0",
                     "row 1* - fall -1", "row 1* - fall 0,1", "row  - fall 0", "row 1* a b fall 0", "", "?", "done", "sizes 2"):
            for ahead in ([], ["row 1* - fall 0"], ["row 1* a erase 0"] * 3):
                self.refused(len(ahead), read_driver, STORE, "\n".join(ahead + [line]))
                self.refused(len(ahead), read_driver, STORE, "\n".join(ahead + [line, "?"]))
        self.refused(1, read_driver, STORE, "row 1* - fall 0\n")
        self.refused(2, read_driver, STORE, "row 1* - fall 0\nrow 1* - fall 0\n\n")

    def test_stories(self):
        for line in ("ask", "ask a b", "ask A", "ask  a", "ask a ", " ask a", "ask a_", "done ", " done", "done now", "Done", "cut", "cut 1x",
                     "cut 1*", "cut 1 0", "cut ", "cut  1", "cut 10 ", "tell a", "", "?", "ask 1.0", "cut a", "rest"):
            for ahead in ([], ["done"], ["ask b", "cut 1.", "done"]):
                self.refused(len(ahead), read_story, "\n".join(ahead + [line]))
                self.refused(len(ahead), read_story, "\n".join(ahead + [line, "?"]))
        self.refused(1, read_story, "ask b\ndone now")
        self.refused(1, read_story, "done\n")

    def test_what_words_say_is_not_looked_at(self):
        self.assertEqual(read_story("ask -\nask 9z\ncut .\ncut 1..0\nask " + "a" * 100),
                         [("ask", "-"), ("ask", "9z"), ("cut", "."), ("cut", "1..0"), ("ask", "a" * 100)])
        for text, part, at in [("sizes 0", "sizes", 0), ("sizes 2 999", "sizes", 1), ("sizes 7\nrule . -", "sizes", 0),
                               ("sizes 1 1 1 1", "sizes", 3), ("sizes 2\nrule 1* a\nrule 1 a", "rules", 1),
                               ("sizes 2\nrule 1* 1a", "rules", 0), ("sizes 2\nrule 1* -\nchange a a", "rules", 0),
                               ("sizes 2\nrule .. a", "rules", 0), ("sizes 2\nrule ** " + "a" * 13, "rules", 0),
                               ("sizes 2\nchange a b\nchange a a", "changes", 1), ("sizes 2\nchange a b\nchange a b", "changes", 1),
                               ("sizes 2\nchange - b", "changes", 0), ("sizes 6" + "\nrule ****** a" * 65, "rules", 64)]:
            with self.assertRaises(NoStore) as caught:
                read_store(text)
            self.assertEqual((caught.exception.part, caught.exception.at), (part, at), text)
        for text, at in [("row 1 - fall 0", 0), ("row ** - fall 0\nrow ** - fall 2", 1), ("row ** - fall 1 0", 0), ("row ** - erase 1", 0),
                         ("row ** 1a fall 0", 0), ("row ** -- fall 0", 0), ("row ** - fall 0 0", 0), ("row ** - fall 999", 0),
                         ("row ** " + "a" * 13 + " fall 0", 0), ("row ** - fall 0\n" * 1100 + "row ** - fall 0", 1100)]:
            with self.assertRaises(NoDriver) as caught:
                read_driver(STORE, text)
            self.assertEqual(caught.exception.at, at, text)

    def test_no_text_comes_ahead(self):
        self.refused(3, read_store, "sizes 0\nrule 1 1\nchange a a\n?")
        self.refused(1, read_driver, STORE, "row 1 - fall 9\n?")

    def test_many_texts_changed_somewhere(self):
        dice = random.Random(5)
        told = {"store": 0, "driver": 0, "story": 0}
        for _ in range(3000):
            store = some_store(dice, dice.choice([(1,), (2,), (1, 1)]))
            text = changed(dice, show_store(store))
            told["store"] += self.look_at(store_fault(text), read_store, text)
            text = changed(dice, show_driver(some_driver(dice, store, dice.randint(0, 3))))
            told["driver"] += self.look_at(list_fault(ROW, text), lambda text, store=store: read_driver(store, text), text)
            events = [dice.choice([("done",), ("ask", dice.choice(NAMES)), ("cut", "10")]) for _ in range(dice.randint(0, 3))]
            text = changed(dice, show_story(events))
            told["story"] += self.look_at(list_fault(EVENT, text), read_story, text)
        self.assertGreater(min(told.values()), 100)

    def look_at(self, fault, call, text):
        """Look that a text is refused as it should be; return whether it is written."""
        try:
            call(text)
        except NoText as error:
            self.assertEqual(error.line, fault, text)
            return False
        except (NoStore, NoDriver):
            pass
        self.assertIsNone(fault, text)
        return True


if __name__ == "__main__":
    unittest.main()
