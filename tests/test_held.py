"""Tests of fallenbits.fields on devices: points 43, 44 and 2."""

import random
import unittest

from fallenbits.devices import Device
from fallenbits.errors import Cut, FallenError, NoBit, NoRoom, NoState, NotInBox
from fallenbits.fields import Choice, Count, Joint, Mark, Once, Toggle, assign
from tests.kinds import PLANS, change_list, kindly, made, reading, surely, ways
from tests.kinds import bits_of as many_bits
from tests.samples import NO_NUMBERS, ODD_THINGS, bits_of, texts_of


def say(held, name):
    held.reads = name


class HeldTest(unittest.TestCase):
    def told(self, held):
        return (held.content, held.reads, held.sure, held.spare)

    def test_worked_by_hand(self):
        device = Device("111")
        spot = Toggle(2).on(device, 1)
        self.assertEqual([spot("on"), device.pattern, spot.reads, spot.sure], [[1], "101", "on", 1])

    def test_what_it_tells_of_each_pattern(self):
        for plan in [plan for plan in PLANS if many_bits(plan) <= 4]:
            many = many_bits(plan)
            for sizes in ((many + 2,), (2, many), (many, 1, 1), (1, many + 1)):
                for x in texts_of(sizes):
                    for first in (0, 1, 2):
                        content = bits_of(x)[first:first + many]
                        held = made(plan).on(Device(x), first)
                        self.assertEqual(self.told(held), (content, reading(plan, content), surely(plan, content),
                                                           kindly(plan, content)), (plan, x, first))

    def test_each_change(self):
        for plan in [plan for plan in PLANS if many_bits(plan) <= 4]:
            for x in texts_of((1, many_bits(plan) + 1)):
                content = bits_of(x)[1:1 + many_bits(plan)]
                for target in [*made(plan).states, "x"]:
                    self.look_at_change(plan, x, content, target)

    def look_at_change(self, plan, x, content, target):
        """Look what each of the three ways to do a change does."""
        name = reading(plan, content)
        for call in (say, assign, lambda held, t: held(t)):
            device = Device(x)
            held = made(plan).on(device, first=1)
            bits = ways(plan, content, target)
            if name is not None and (name == target or ((name, target) in change_list(plan) and bits)):
                fell = [] if name == target else [1 + bits[0]]
                if call in (say, assign):
                    self.assertIsNone(call(held, target))
                else:
                    self.assertEqual(held(target), fell)
                self.assertEqual(held.reads, target)
                self.assertEqual((device.ended, device.cuts), (len(fell), 0))
                self.assertEqual([at for at, (a, b) in enumerate(zip(bits_of(x), bits_of(device.pattern))) if a != b], fell)
            else:
                error = NoRoom if name is not None and (name, target) in change_list(plan) else NoState
                with self.assertRaises(error):
                    call(held, target)
                self.assertEqual((device.pattern, device.ended), (x, 0))

    def test_by_default_it_begins_at_the_first_bit(self):
        device = Device("11.1")
        held = Count(3).on(device)
        self.assertEqual(held("n1"), [0])
        self.assertEqual(device.pattern, "01.1")

    def test_over_the_end_of_a_block(self):
        device = Device("11.11.11")
        held = Count(5).on(device, 1)
        for number, (bit, x) in enumerate([(1, "10.11.11"), (2, "10.01.11"), (3, "10.00.11"), (4, "10.00.01"),
                                           (5, "10.00.00")], 1):
            self.assertEqual(held("n" + str(number)), [bit])
            self.assertEqual(device.pattern, x)
        with self.assertRaises(NoState):
            held("n6")
        device.do(("erase", 1))
        self.assertEqual(self.told(held), ("01100", "n3", "ever", 2))

    def test_up_to_date_when_others_write(self):
        device = Device("1111")
        pick = Choice(("a", "b", "c"), 1).on(device, 1)
        other = Mark().on(device, 2)
        self.assertEqual(self.told(pick), ("11", "a", 1, 2))
        assign(other, "set")
        self.assertEqual(self.told(pick), ("10", "c", 0, 1))
        device.do(("fall", (0, 1)))
        self.assertEqual(self.told(pick), ("00", "a", 0, 0))
        with self.assertRaises(NoRoom):
            pick("b")
        device.block(0).erase()
        self.assertEqual(self.told(pick), ("11", "a", 1, 2))

    def test_no_bit(self):
        device = Device("11.111")
        for first in [*NO_NUMBERS, -1, 4, 5, 10 ** 60, -(10 ** 60)]:
            with self.assertRaises(NoBit):
                Toggle(2).on(device, first)
        for first in (0, 1, 2, 3):
            self.assertEqual(Toggle(2).on(device, first).content, "11")
        with self.assertRaises(NoBit):
            Toggle(6).on(device)
        self.assertEqual(Toggle(5).on(device).content, "11111")
        self.assertEqual((device.pattern, device.stood()), ("11.111", ["11.111"]))

    def test_nothing_happens_for_the_present_state(self):
        device = Device("11")
        held = Toggle(2).on(device)
        device.arm("01")
        for call in (say, assign, lambda held, t: self.assertEqual(held(t), [])):
            call(held, "off")
            self.assertEqual((device.pattern, device.armed, device.ended), ("11", "01", 0))
        with self.assertRaises(Cut) as caught:
            held("on")
        self.assertEqual((caught.exception.found, held.reads, device.armed, device.cuts), ("01", "on", None, 1))

    def test_no_state(self):
        device = Device("111")
        held = Once(("p", "q", "r")).on(device)
        for thing in [*ODD_THINGS, "on", "Open"]:
            for call in (say, assign, lambda held, t: held(t)):
                with self.assertRaises(NoState):
                    call(held, thing)
        self.assertEqual(device.pattern, "111")
        held.reads = "q"
        with self.assertRaises(NoState):
            held("p")
        device.do(("fall", (0,)))
        self.assertEqual(self.told(held), ("001", None, None, None))
        for thing in (None, "open", "p", "q"):
            with self.assertRaises(NoState):
                held.reads = thing
        self.assertEqual(device.pattern, "001")

    def test_errors_leave_a_failure_armed(self):
        device = Device("0")
        held = Toggle(1).on(device)
        device.arm("0")
        for name, error in (("off", NoRoom), ("x", NoState)):
            with self.assertRaises(error):
                assign(held, name)
        self.assertEqual((device.armed, device.ended), ("0", 0))

    def test_failures(self):
        for z, reads in (("11", "off"), ("01", "on")):
            device = Device("11")
            held = Toggle(2).on(device)
            with self.assertRaises(Cut) as caught:
                device.tried(z, lambda held=held: held("on"))
            self.assertEqual((caught.exception.found, held.content, held.reads), (z, z, reads))
            self.assertEqual((device.ended, device.cuts), (0, 1))
        device = Device("11")
        held = Toggle(2).on(device)
        device.arm("10")
        with self.assertRaises(NotInBox):
            held.reads = "on"
        self.assertEqual((held.reads, device.pattern, device.armed), ("off", "11", None))
        held.reads = "on"
        self.assertEqual(device.pattern, "01")

    def test_as_many_changes_as_are_sure(self):
        dice = random.Random(1)
        fields = [Toggle(7), Choice(("a", "b", "c"), 4), Joint(Toggle(1), Choice(("a", "b", "c"), 1), 3), Count(9)]
        for field in fields * 20:
            device = Device("1" * field.bits)
            held = field.on(device)
            sure = held.sure
            done = 0
            while sure == "ever" or done < sure:
                targets = field.targets(held.reads)
                if not targets:
                    break
                target = dice.choice(targets)
                # A failure leaves the old state or the new one; then the change is done, or asked again.
                after = device.pattern
                if dice.random() < 0.3:
                    device.arm(after)
                    with self.assertRaises(Cut):
                        held(target)
                self.assertLessEqual(len(held(target)), 1)
                self.assertEqual(held.reads, target)
                done += 1

    def test_all_errors_are_of_the_package(self):
        for error in (NoRoom, NoState, NoBit):
            self.assertTrue(issubclass(error, FallenError))


if __name__ == "__main__":
    unittest.main()
