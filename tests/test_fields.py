"""Tests of fallenbits.fields: points 43, 44 and 2; fields on devices are tested in test_held."""

import itertools
import unittest

from fallenbits.errors import NoField, NoPattern, NoRoom, NoState
from fallenbits.fields import Choice, Count, Field, Joint, Mark, Once, Toggle
from fallenbits.stores import Store
from fallenbits.worths import worths
from tests.kinds import (
    PLANS, bits_of, change_list, contents, kindly, made, names_of, reading, surely, text_of, ways, without)
from tests.samples import NO_NUMBERS, NO_TEXTS, ODD_THINGS

SMALL = [plan for plan in PLANS if bits_of(plan) <= 10]
CONTENT_FAULTS = [("", 0), ("1", 1), ("111", 3), ("111x", 3), ("x111", 0), ("1.11", 1), ("11112", 4), ("11110", 4), ("1111.", 4),
                  ("1 11", 1), ("*111", 0), ("111111111", 4)]


class KindTest(unittest.TestCase):
    def test_worked_by_hand(self):
        pick = Choice(("a", "b", "c"), 2)
        self.assertEqual((pick.bits, pick.state("1011"), pick.way("1011", "a"), pick.room("1011"), pick.left("1011")),
                         (4, "b", [2], 1, 3))
        both = Joint(Toggle(1), Toggle(1), 1)
        self.assertEqual(both.states, ("off-off", "off-on", "on-off", "on-on"))
        self.assertEqual((both.way("111", "on-on"), both.way("011", "on-off")), ([2], [2]))
        self.assertIsNone(Once(["x", "y"]).state("00"))

    def test_most(self):
        self.assertEqual(Field.MOST, 40)
        self.assertEqual((Mark.MOST, Choice.MOST), (40, 40))

    def test_bases(self):
        for plan in PLANS:
            self.assertIsInstance(made(plan), Field)
        self.assertIsInstance(Toggle(1), Choice)
        self.assertIsInstance(Joint(Toggle(1), Toggle(1), 1), Choice)
        self.assertFalse(isinstance(Mark(), Choice) or isinstance(Once(["a"]), Choice) or isinstance(Count(1), Choice))

    def test_bits_states_and_start(self):
        for plan in PLANS:
            field = made(plan)
            self.assertEqual((field.bits, field.states), (bits_of(plan), names_of(plan)))
            self.assertEqual(field.start, field.states[0])
            self.assertEqual(field.start, field.state("1" * field.bits))

    def test_changes_and_targets(self):
        for plan in PLANS:
            field = made(plan)
            self.assertEqual(field.changes(), change_list(plan))
            for name in [*field.states, "", "x", "n7", "open", "clear", "off"]:
                self.assertEqual(field.targets(name), [t for s, t in change_list(plan) if s == name])
        # Ascending as texts compare.
        self.assertEqual(Count(11).changes()[:4], [("n0", "n1"), ("n1", "n2"), ("n10", "n11"), ("n2", "n3")])

    def test_what_contents_read(self):
        for plan in SMALL:
            field = made(plan)
            for content in contents(plan):
                self.assertEqual(field.state(content), reading(plan, content), (plan, content))

    def test_ways(self):
        for plan in SMALL:
            field = made(plan)
            for content in contents(plan):
                name = reading(plan, content)
                for target in [*field.states, "x", ""]:
                    if name is None or (name, target) not in change_list(plan):
                        with self.assertRaises(NoState):
                            field.way(content, target)
                    elif ways(plan, content, target):
                        self.assertEqual(field.way(content, target), ways(plan, content, target)[:1], (plan, content))
                    else:
                        with self.assertRaises(NoRoom):
                            field.way(content, target)

    def test_room_and_left(self):
        for plan in SMALL:
            field = made(plan)
            for content in contents(plan):
                self.assertEqual(field.left(content), kindly(plan, content), (plan, content))
                self.assertEqual(field.room(content), surely(plan, content), (plan, content))

    def test_room_is_the_worth_in_the_store(self):
        looked = 0
        for plan in PLANS:
            if bits_of(plan) <= 6 and len(change_list(plan)) <= 16:
                ranks = worths(made(plan).as_store(), erases=False)
                for content in contents(plan):
                    self.assertEqual(made(plan).room(content), ranks[content], (plan, content))
                looked += 1
        self.assertGreater(looked, 10)

    def test_images(self):
        for plan in PLANS:
            field = made(plan)
            for number, name in enumerate(field.states):
                content = field.image(name)
                self.assertEqual(field.state(content), name)
                fallen = [bit for bit, sign in enumerate(content) if sign == "0"]
                if plan[0] == "count":
                    self.assertEqual(fallen, list(range(number)))
                elif number == 0:
                    self.assertEqual(fallen, [])
                elif plan[0] in ("mark", "once"):
                    self.assertEqual(fallen, [number - 1])
                else:
                    self.assertEqual(fallen, [(number - 1) * plan[-1]])

    def test_the_largest(self):
        for field in (Toggle(40), Choice(("a", "b", "c"), 20), Choice(tuple("abcdefgh"), 5), Count(40),
                      Joint(Toggle(1), Toggle(40), 13)):
            self.assertIn(field.bits, (35, 39, 40))
            self.assertEqual(field.state("1" * field.bits), field.start)
            self.assertEqual(field.left("1" * field.bits), field.bits)
        self.assertEqual(Count(40).state("0" * 40), "n40")
        self.assertEqual(Toggle(40).state("0" * 39 + "1"), "on")
        self.assertEqual(Toggle(40).way("0" * 39 + "1", "off"), [39])
        self.assertEqual(Choice(tuple("abcdefgh"), 5).room("1" * 34 + "0"), 4)

    def test_a_joint_adds_its_parts_to_each_of_the_two(self):
        field = Joint(Choice(("p", "q", "r", "s"), 1), Toggle(3), 2)
        self.assertEqual((field.bits, field.states[:3]), (14, ("p-off", "p-on", "q-off")))
        # The bits 0 and 1 have the label 1, which is nothing and on; 12 and 13 the label 7, which is s and on.
        self.assertEqual(field.state("0" + "1" * 13), "p-on")
        self.assertEqual(field.state("1" * 13 + "0"), "s-on")
        self.assertEqual(field.state("1" * 12 + "00"), "r-off")
        # From r, off to q, on: s and on, label 7, whose bits have fallen; to s, on: q and on, label 3, the bits 4 and 5.
        with self.assertRaises(NoRoom):
            field.way("1" * 12 + "00", "q-on")
        self.assertEqual(field.way("1" * 12 + "00", "s-on"), [4])
        deep = Joint(Joint(Toggle(1), Toggle(1), 1), Toggle(1), 5)
        self.assertEqual((deep.bits, deep.states[1:3]), (35, ("off-off-on", "off-on-off")))
        # Labels 3 and 5 are off-on-on and on-off-on: 6 of both, on-on-off.
        self.assertEqual(deep.state("1" * 10 + "0" + "1" * 9 + "0" + "1" * 14), "on-on-off")


class ErrorTest(unittest.TestCase):
    def refused(self, part, call, *given):
        with self.assertRaises(NoField) as caught:
            call(*given)
        self.assertEqual(caught.exception.part, part, given)

    def test_names_of_a_choice(self):
        wrong = [*ODD_THINGS, "ab", ["a"], ("a",), ("a", "a"), ["a", "b", "a"], ("a", "B"), ("a", ""), ("a", None), ("a", []), ("a", "x y"),
                  ("a", "1b"), ("a", "a" * 13), {"a": 1, "b": 2}, tuple("abcdefghi"), [["a", "b"]], ("a", ("b",))]
        for names in wrong:
            self.refused("names", Choice, names, 1)
            self.refused("names", Choice, names, None)
        self.assertEqual(Choice(["a" * 12, "z9-"], 1).states, ("a" * 12, "z9-"))

    def test_times_of_a_choice(self):
        for times in [*NO_NUMBERS, 0, -1, 21, 41, 10 ** 59]:
            self.refused("times", Choice, ("a", "b", "c"), times)
        for many, most in ((2, 40), (3, 20), (4, 13), (5, 10), (6, 8), (7, 6), (8, 5)):
            names = tuple("abcdefgh"[:many])
            self.assertEqual(Choice(names, most).bits, most * (many - 1))
            self.refused("times", Choice, names, most + 1)

    def test_toggle_and_count(self):
        for thing in [*NO_NUMBERS, 0, -1, 41, 10 ** 59]:
            self.refused("times", Toggle, thing)
            self.refused("top", Count, thing)

    def test_joint(self):
        for times in [*NO_NUMBERS, 0, -1, 14, 10 ** 59]:
            self.refused("times", Joint, Toggle(1), Toggle(1), times)
        long = Choice(("a" * 6, "b" * 6), 1)
        self.assertEqual(Joint(long, Choice(("a" * 5, "b" * 5), 1), 1).bits, 3)
        self.refused("names", Joint, long, Choice(("a" * 6, "b"), 1), 0)
        self.refused("names", Joint, Choice(("a", "a-b"), 1), Choice(("b-c", "c"), 1), 0)
        self.assertEqual(Joint(Toggle(1), Choice(("a", "b", "c", "d"), 1), 1).bits, 7)
        self.refused("names", Joint, Choice(("a", "b", "c"), 1), Choice(("a", "b", "c"), 1), 1)
        self.refused("names", Joint, Toggle(1), Choice(("a", "b", "c", "d", "e"), 1), 1)
        self.refused("names", Joint, Joint(Toggle(1), Toggle(1), 1), Choice(("a", "b", "c"), 1), 1)

    def test_joint_of_what_is_no_choice(self):
        for thing in (Mark(), Count(1), Once(["a"]), None, "toggle 1", 1):
            self.refused("names", Joint, thing, Toggle(1), 1)
            self.refused("names", Joint, Toggle(1), thing, 1)

    def test_once(self):
        wrong = [thing for thing in ODD_THINGS if thing not in (("fall",), ("erase",))]
        wrong += ["ab", [], (), ("a", "a"), ["open"], ("a", "open"), ("A",), ("a", None), ("a", []),
                 tuple("abcdefghi"), {"a": 1}]
        for names in wrong:
            self.refused("names", Once, names)
        self.assertEqual(Once(tuple("abcdefgh")).bits, 8)

    def test_contents(self):
        field = Toggle(4)
        for thing, at in CONTENT_FAULTS + [(thing, 0) for thing in NO_TEXTS]:
            for call in (field.state, field.room, field.left, lambda content: field.way(content, None)):
                with self.assertRaises(NoPattern) as caught:
                    call(thing)
                self.assertEqual(caught.exception.at, at, thing)

    def test_no_state(self):
        for plan in PLANS:
            field = made(plan)
            for thing in [*ODD_THINGS, "n-1", "n01", "N0", "on ", "clear-set"]:
                if thing not in field.states:
                    with self.assertRaises(NoState):
                        field.image(thing)
                    with self.assertRaises(NoState):
                        field.way("1" * field.bits, thing)

    def test_no_room_comes_behind_no_state(self):
        with self.assertRaises(NoRoom):
            Toggle(2).way("00", "on")
        with self.assertRaises(NoState):
            Toggle(2).way("00", "off")
        with self.assertRaises(NoState):
            Mark().way("0", "clear")
        with self.assertRaises(NoState):
            Count(2).way("00", "n3")
        with self.assertRaises(NoState):
            Once(("a", "b")).way("00", "a")
        with self.assertRaises(NoRoom):
            Choice(("a", "b", "c"), 1).way("01", "c")


class StoreTest(unittest.TestCase):
    def test_as_store(self):
        for plan in PLANS:
            field = made(plan)
            if field.bits > 6:
                with self.assertRaises(NoField) as caught:
                    field.as_store()
                self.assertEqual(caught.exception.part, "bits")
            elif len(change_list(plan)) > 16:
                with self.assertRaises(NoField) as caught:
                    field.as_store()
                self.assertEqual(caught.exception.part, "changes")
            else:
                store = field.as_store()
                rules = [(content, reading(plan, content)) for content in contents(plan) if reading(plan, content)]
                self.assertEqual(store, Store([field.bits], rules, change_list(plan)))
                self.assertEqual(store.states, tuple(sorted(field.states)))

    def test_bits_come_ahead_of_changes(self):
        for field, part in ((Choice(tuple("abcde"), 2), "bits"), (Choice(tuple("abcde"), 1), "changes"),
                            (Choice(tuple("abcdefgh"), 1), "bits"), (Count(7), "bits"), (Toggle(7), "bits")):
            with self.assertRaises(NoField) as caught:
                field.as_store()
            self.assertEqual(caught.exception.part, part)
        self.assertEqual(len(Choice(tuple("abcd"), 2).as_store().changes()), 12)


class EqualTest(unittest.TestCase):
    def test_equal_to_the_same_kind_of_equal_parts_only(self):
        fields = [made(plan) for plan in PLANS] + [
            Choice(("off", "on"), 1), Choice(("off", "on"), 3), Choice(("b", "a"), 2), Choice(("a", "b"), 3),
            Choice(("off-off", "off-on", "on-off", "on-on"), 1), Joint(Toggle(2), Toggle(1), 1), Toggle(4),
            Joint(Choice(("off", "on"), 1), Toggle(2), 1), Once(("a", "b")), Once(("b", "a")), Count(2)]
        for one, other in itertools.product(range(len(fields)), repeat=2):
            self.assertIs(fields[one] == fields[other], one == other, (str(fields[one]), str(fields[other])))
            self.assertIs(fields[one] != fields[other], one != other)
        for plan in PLANS:
            self.assertEqual(made(plan), made(plan))

    def test_a_list_and_a_tuple_alike(self):
        self.assertEqual(Choice(["a", "b"], 2), Choice(("a", "b"), 2))
        self.assertEqual(Once(["a", "b"]), Once(("a", "b")))
        self.assertNotEqual(Once(["a", "b"]), Once(["b", "a"]))
        self.assertEqual(Joint(Choice(["a", "b"], 2), Toggle(1), 1), Joint(Choice(("a", "b"), 2), Toggle(1), 1))

    def test_nothing_else_is_equal(self):
        for plan in PLANS:
            for thing in [*ODD_THINGS, text_of(plan), Store([1], [], [])]:
                self.assertFalse(made(plan) == thing)

    def test_texts(self):
        for plan in PLANS:
            self.assertEqual(str(made(plan)), text_of(plan))
        self.assertEqual([str(Mark()), str(Choice(["a", "b", "c"], 2)), str(Toggle(3)), str(Count(5)), str(Once(("a", "b")))],
                         ["mark", "choice 2 a b c", "toggle 3", "count 5", "once a b"])
        self.assertEqual(str(Joint(Toggle(1), Toggle(1), 1)), "joint 1 [toggle 1] [toggle 1]")
        self.assertEqual(str(Joint(Joint(Toggle(1), Toggle(1), 2), Choice(("a", "b"), 4), 3)),
                         "joint 3 [joint 2 [toggle 1] [toggle 1]] [choice 4 a b]")

    def test_arguments_and_answers_are_kept_apart(self):
        names = ["a", "b", "c"]
        pick, once = Choice(names, 1), Once(names)
        names.append("d")
        names[0] = "z"
        self.assertEqual((pick.states, once.states), (("a", "b", "c"), ("open", "a", "b", "c")))
        for call in (pick.changes, lambda: pick.targets("a"), lambda: pick.way("11", "b"), lambda: once.targets("open")):
            kept = list(call())
            call().clear()
            self.assertEqual(call(), kept)


if __name__ == "__main__":
    unittest.main()
