"""Tests of fallenbits.devices: points 9, 10 and 2."""

import unittest

from fallenbits.devices import Block, Device
from fallenbits.errors import Cut, FallenError, NoBit, NoPattern, NoWrite, NotInBox, Rise, Unlike
from tests.samples import (
    NO_NUMBERS, NO_TEXTS, ODD_THINGS, box_of, end_of, erases_of, falls_of, shapes, sizes_of, texts_of,
)


def tells(device):
    """Return all that a device tells."""
    return (device.pattern, device.ended, device.cuts, device.erases, device.armed, device.stood())


class DeviceCase(unittest.TestCase):
    def raises(self, error, act, *given):
        with self.assertRaises(error) as caught:
            act(*given)
        return caught.exception

    def changes_nothing(self, device, error, act, *given):
        before = tells(device)
        found = self.raises(error, act, *given)
        self.assertEqual(tells(device), before)
        return found


class DoTest(DeviceCase):
    def test_a_new_device(self):
        for text in ["1", "10.1", "0.0.0", "1" * 120]:
            device = Device(text)
            self.assertEqual(tells(device), (text, 0, 0, (0,) * len(sizes_of(text)), None, [text]))

    def test_no_pattern(self):
        for thing, at in [("", 0), ("1.", 2), ("12", 1), ("1.1.1.1", 5)] + [(thing, 0) for thing in NO_TEXTS]:
            self.assertEqual(self.raises(NoPattern, Device, thing).at, at)

    def test_all_small_writes(self):
        for sizes in shapes(4):
            for x in texts_of(sizes):
                for write in falls_of(x) + erases_of(x):
                    device = Device(x)
                    after = end_of(x, write)
                    self.assertEqual(device.do(write), after)
                    erases = tuple(int(write == ("erase", b)) for b in range(len(sizes)))
                    self.assertEqual(tells(device), (after, 1, 0, erases, None, [x, after]))

    def test_several_writes(self):
        device = Device("11.1.11")
        self.assertEqual(device.do(("fall", (0, 2))), "01.0.11")
        self.assertEqual(device.do(("erase", 1)), "01.1.11")
        self.assertEqual(device.do(("fall", (2, 4))), "01.0.10")
        self.assertEqual(device.do(("erase", 1)), "01.1.10")
        self.assertEqual(device.do(("erase", 2)), "01.1.11")
        self.assertEqual(tells(device), (
            "01.1.11", 5, 0, (0, 2, 1), None,
            ["11.1.11", "01.0.11", "01.1.11", "01.0.10", "01.1.10", "01.1.11"]))

    def test_no_write(self):
        for thing in ODD_THINGS + [("fall", (1,)), ("fall", (0, 1)), ("fall", (2, 0)), ("fall", (0, 0)), ("fall", ()),
                                   ("fall", [0]), ("fall", (3,)), ("fall", (False,)), ("erase", 1), ("erase", 2),
                                   ("erase", False), ("erase", -2), ["erase", 0], ("erase", 0, 0)]:
            device = Device("10.1")
            self.changes_nothing(device, NoWrite, device.do, thing)

    def test_many_bits_may_change(self):
        device = Device("1" * 120)
        self.assertEqual(device.do(("fall", tuple(range(120)))), "0" * 120)
        device.arm("10" * 60)
        self.assertEqual(self.raises(Cut, device.do, ("erase", 0)).found, "10" * 60)

    def test_each_list_of_stood_is_new(self):
        device = Device("11")
        found = device.stood()
        found.append("x")
        self.assertEqual(device.stood(), ["11"])
        device.do(("fall", (0,)))
        self.assertEqual(found, ["11", "x"])
        self.assertEqual(device.stood(), ["11", "01"])

    def test_erases_are_a_tuple_of_their_time(self):
        device = Device("0.0")
        before = device.erases
        device.do(("erase", 1))
        self.assertEqual((before, device.erases), ((0, 0), (0, 1)))
        self.assertIsInstance(device.erases, tuple)

    def test_two_devices_share_nothing(self):
        one, other = Device("11"), Device("11")
        one.arm("01")
        self.raises(Cut, one.do, ("fall", (0,)))
        one.do(("erase", 0))
        self.assertEqual(tells(other), ("11", 0, 0, (0,), None, ["11"]))
        self.assertFalse(one == other)


class ArmTest(DeviceCase):
    def test_each_failure_in_each_small_write(self):
        for sizes in shapes(3):
            for x in texts_of(sizes):
                for write in falls_of(x) + erases_of(x):
                    inside = box_of(x, end_of(x, write))
                    for z in texts_of(sizes):
                        device = Device(x)
                        self.assertIsNone(device.arm(z))
                        self.assertEqual(device.armed, z)
                        none = (0,) * len(sizes)
                        if z in inside:
                            self.assertEqual(self.raises(Cut, device.do, write).found, z)
                            self.assertEqual(tells(device), (z, 0, 1, none, None, [x, z]))
                        else:
                            self.raises(NotInBox, device.do, write)
                            self.assertEqual(tells(device), (x, 0, 0, none, None, [x]))

    def test_the_next_write_behind_a_failure_ends(self):
        device = Device("11.1")
        device.arm("01.1")
        self.raises(Cut, device.do, ("fall", (0, 1)))
        self.assertEqual(device.do(("fall", (1,))), "00.1")
        device.arm("11.0")
        self.raises(NotInBox, device.do, ("erase", 0))
        self.assertEqual(device.do(("erase", 0)), "11.1")
        self.assertEqual(tells(device), ("11.1", 2, 1, (1, 0), None, ["11.1", "01.1", "00.1", "11.1"]))

    def test_a_cut_erase_is_no_ended_erase(self):
        for z in ["00.0", "01.0", "10.0", "11.0"]:
            device = Device("00.0")
            device.arm(z)
            self.assertEqual(self.raises(Cut, device.do, ("erase", 0)).found, z)
            self.assertEqual(tells(device), (z, 0, 1, (0, 0), None, ["00.0", z]))

    def test_the_failure_hits_the_next_write_only_once(self):
        device = Device("111")
        device.arm("011")
        self.raises(Cut, device.do, ("fall", (0,)))
        self.assertEqual(device.do(("fall", (1,))), "001")

    def test_a_second_failure_replaces_the_first(self):
        device = Device("11")
        device.arm("01")
        self.assertIsNone(device.arm("10"))
        self.assertEqual(device.armed, "10")
        self.assertEqual(self.raises(Cut, device.do, ("fall", (0, 1))).found, "10")

    def test_none_takes_it_back(self):
        device = Device("11")
        device.arm("01")
        self.assertIsNone(device.arm(None))
        self.assertIsNone(device.armed)
        self.assertEqual(device.do(("fall", (0, 1))), "00")
        self.assertEqual((device.ended, device.cuts), (1, 0))
        self.assertIsNone(device.arm(None))

    def test_no_write_leaves_it_armed(self):
        device = Device("11.0")
        device.arm("01.0")
        for thing in [("fall", (2,)), ("erase", 0), None, ("fall", [0]), ("fall", (1, 0)), (), "fall"]:
            self.changes_nothing(device, NoWrite, device.do, thing)
        self.assertEqual(self.raises(Cut, device.do, ("fall", (0,))).found, "01.0")

    def test_no_pattern_and_unlike_leave_an_earlier_failure_armed(self):
        for earlier in [None, "01.0"]:
            device = Device("11.0")
            device.arm(earlier)
            for thing, at in [("", 0), ("1.", 2), ("11.x", 3)] + [(thing, 0) for thing in NO_TEXTS if thing is not None]:
                self.assertEqual(self.changes_nothing(device, NoPattern, device.arm, thing).at, at)
            for z in ["11", "110", "1.10", "11.0.1", "1"]:
                self.changes_nothing(device, Unlike, device.arm, z)
            self.assertEqual(device.armed, earlier)

    def test_long_patterns(self):
        device = Device("1" * 60 + "." + "0" * 60)
        z = "1" * 60 + "." + "01" * 30
        device.arm(z)
        self.assertEqual(self.raises(Cut, device.do, ("erase", 1)).found, z)


class TriedTest(DeviceCase):
    def test_it_returns_what_ask_returns(self):
        for answer in ODD_THINGS:
            device = Device("11")
            self.assertIs(device.tried("01", lambda: answer), answer)
            self.assertIs(device.tried(None, lambda: answer), answer)

    def test_it_is_armed_while_ask_is_called(self):
        device = Device("11")
        self.assertEqual(device.tried("01", lambda: device.armed), "01")
        self.assertIsNone(device.armed)

    def test_ask_is_called_once(self):
        device, calls = Device("11"), []
        device.tried("01", lambda: calls.append(device.armed))
        device.tried(None, lambda: calls.append(device.armed))
        self.assertEqual(calls, ["01", None])

    def test_an_unused_failure_is_taken_back(self):
        device = Device("11")
        device.tried("01", lambda: None)
        self.assertIsNone(device.armed)
        self.assertEqual(device.do(("fall", (0,))), "01")
        self.assertEqual((device.ended, device.cuts), (1, 0))

    def test_a_cut_goes_on(self):
        device = Device("11")
        self.assertEqual(self.raises(Cut, device.tried, "01", lambda: device.do(("fall", (0, 1)))).found, "01")
        self.assertEqual(tells(device), ("01", 0, 1, (0,), None, ["11", "01"]))

    def test_not_in_box_goes_on(self):
        device = Device("11")
        self.raises(NotInBox, device.tried, "01", lambda: device.do(("fall", (1,))))
        self.assertEqual(tells(device), ("11", 0, 0, (0,), None, ["11"]))

    def test_any_other_error_goes_on_and_none_is_armed(self):
        for error in (KeyError, ZeroDivisionError, Rise, StopIteration):
            def ask():
                raise error("why")
            device = Device("11")
            found = self.raises(error, device.tried, "01", ask)
            self.assertEqual(found.args, ("why",))
            self.assertEqual(tells(device), ("11", 0, 0, (0,), None, ["11"]))
            self.raises(error, device.tried, None, ask)
            self.assertIsNone(device.armed)

    def test_no_write_goes_on_and_none_is_armed(self):
        device = Device("11")
        self.raises(NoWrite, device.tried, "01", lambda: device.do(("erase", 0)))
        self.assertIsNone(device.armed)

    def test_none_takes_an_earlier_failure_back(self):
        device = Device("11")
        device.arm("01")
        self.assertEqual(device.tried(None, lambda: device.do(("fall", (0,)))), "01")
        self.assertEqual(tells(device), ("01", 1, 0, (0,), None, ["11", "01"]))

    def test_an_earlier_failure_is_replaced(self):
        device = Device("11")
        device.arm("01")
        self.assertEqual(device.tried("10", lambda: device.armed), "10")
        self.assertIsNone(device.armed)

    def test_what_ask_arms_is_taken_back(self):
        device = Device("11")
        device.tried("01", lambda: device.arm("00"))
        self.assertIsNone(device.armed)
        device.tried(None, lambda: device.arm("00"))
        self.assertIsNone(device.armed)

    def test_only_the_first_write_of_ask_fails(self):
        device = Device("111")

        def ask():
            try:
                device.do(("fall", (0,)))
            except Cut as cut:
                return [cut.found, device.do(("fall", (1,))), device.do(("erase", 0))]
        self.assertEqual(device.tried("111", ask), ["111", "101", "111"])
        self.assertEqual((device.ended, device.cuts, device.erases), (2, 1, (1,)))

    def test_its_errors_come_before_ask_is_called(self):
        for earlier in [None, "01.0"]:
            device, calls = Device("11.0"), []
            device.arm(earlier)
            for thing in ["", "1.", "11.x"] + [thing for thing in NO_TEXTS if thing is not None]:
                self.changes_nothing(device, NoPattern, device.tried, thing, lambda: calls.append(1))
            for z in ["11", "110", "1.10"]:
                self.changes_nothing(device, Unlike, device.tried, z, lambda: calls.append(1))
            self.assertEqual((calls, device.armed), ([], earlier))


class BlockTest(DeviceCase):
    def test_looking(self):
        device = Device("10.011.1")
        blocks = [device.block(b) for b in range(3)]
        self.assertEqual([len(block) for block in blocks], [2, 3, 1])
        self.assertEqual([block.text for block in blocks], ["10", "011", "1"])
        self.assertEqual([[block[i] for i in range(len(block))] for block in blocks], [[1, 0], [0, 1, 1], [1]])
        for block in blocks:
            self.assertIsInstance(block, Block)

    def test_block_is_made_of_a_device(self):
        device = Device("10.01")
        block = Block(device, 1)
        block[1] = 0
        self.assertEqual((block.text, device.pattern), ("00", "10.00"))

    def test_no_such_block(self):
        for text in ["1", "1.1", "1.1.1"]:
            device = Device(text)
            blocks = len(sizes_of(text))
            for b in [blocks, 3, -1, -blocks, 10 ** 59] + NO_NUMBERS:
                self.changes_nothing(device, NoBit, device.block, b)
                self.changes_nothing(device, NoBit, Block, device, b)
                self.changes_nothing(device, NoBit, device.set_text, b, "0")

    def test_no_such_bit(self):
        device = Device("11.111")
        for b in range(2):
            block = device.block(b)
            for i in [len(block), len(block) + 1, 5, -1, -len(block), 10 ** 59] + NO_NUMBERS:
                self.changes_nothing(device, NoBit, lambda: block[i])
                for bit in (0, 1):
                    self.changes_nothing(device, NoBit, block.put, i, bit)
                    self.changes_nothing(device, NoBit, block.__setitem__, i, bit)

    def test_two_views_of_one_block_stay_up_to_date(self):
        device = Device("11.111")
        one, other, first = device.block(1), device.block(1), device.block(0)
        one[0] = 0
        self.assertEqual((one.text, other.text, other[0], first.text), ("011", "011", 0, "11"))
        other.text = "001"
        self.assertEqual((one.text, one[1], device.pattern), ("001", 0, "11.001"))
        device.do(("fall", (0, 4)))
        self.assertEqual((one.text, other.text, other[2], first.text), ("000", "000", 0, "01"))
        device.do(("erase", 1))
        self.assertEqual((one.text, other.text, other[2]), ("111", "111", 1))
        device.arm("01.101")
        self.raises(Cut, one.put, 1, 0)
        self.assertEqual((one.text, other.text), ("101", "101"))
        other.erase()
        self.assertEqual((one.text, device.pattern), ("111", "01.111"))

    def test_views_see_what_another_block_does(self):
        device = Device("11.11")
        one, other = device.block(0), device.block(1)
        other.change("00")
        one.put(1, 0)
        self.assertEqual((one.text, other.text, device.stood()), ("10", "00", ["11.11", "11.00", "10.00"]))


def set_item(block, i, bit):
    block[i] = bit


def put_it(block, i, bit):
    block.put(i, bit)


class BitsTest(DeviceCase):
    SETTERS = [set_item, put_it]

    def test_each_bit_of_each_block(self):
        for put in self.SETTERS:
            for x in ["1", "101", "10.011", "1.0.10"]:
                for b, part in enumerate(x.split(".")):
                    for i, bit in enumerate(part):
                        self.let_fall(put, x, b, i, bit)
                        self.let_stand(put, x, b, i, bit)

    def let_fall(self, put, x, b, i, bit):
        device = Device(x)
        put(device.block(b), i, 0)
        number = sum(sizes_of(x)[:b]) + i
        if bit == "1":
            after = end_of(x, ("fall", (number,)))
            self.assertEqual(tells(device), (after, 1, 0, (0,) * len(sizes_of(x)), None, [x, after]))
        else:
            self.assertEqual(tells(device), tells(Device(x)))

    def let_stand(self, put, x, b, i, bit):
        device = Device(x)
        if bit == "1":
            put(device.block(b), i, 1)
        else:
            self.raises(Rise, put, device.block(b), i, 1)
        self.assertEqual(tells(device), tells(Device(x)))

    def test_nothing_happens_leaves_a_failure_armed(self):
        for put in self.SETTERS:
            device = Device("10.01")
            device.arm("00.01")
            for b, i, bit in [(0, 0, 1), (0, 1, 0), (1, 0, 0), (1, 1, 1)]:
                put(device.block(b), i, bit)
                self.assertEqual(tells(device), ("10.01", 0, 0, (0, 0), "00.01", ["10.01"]))

    def test_errors_leave_a_failure_armed(self):
        for put in self.SETTERS:
            device = Device("10.01")
            device.arm("00.01")
            self.changes_nothing(device, Rise, put, device.block(0), 1, 1)
            self.changes_nothing(device, NoBit, put, device.block(0), 2, 0)
            self.changes_nothing(device, NoBit, put, device.block(0), 2, 1)

    def test_cut_and_not_in_box(self):
        for put in self.SETTERS:
            for z in ["10.01", "10.00"]:
                device = Device("10.01")
                device.arm(z)
                self.assertEqual(self.raises(Cut, put, device.block(1), 1, 0).found, z)
                self.assertEqual(tells(device), (z, 0, 1, (0, 0), None, ["10.01", z]))
            device = Device("10.01")
            device.arm("00.01")
            self.raises(NotInBox, put, device.block(1), 1, 0)
            self.assertEqual(tells(device), ("10.01", 0, 0, (0, 0), None, ["10.01"]))

    def test_a_bit_is_a_number(self):
        block = Device("10").block(0)
        self.assertEqual([block[0].__class__, block[1].__class__], [int, int])


def assign_text(device, b, text):
    device.block(b).text = text


def change_text(device, b, text):
    device.block(b).change(text)


def set_text(device, b, text):
    device.set_text(b, text)


class TextTest(DeviceCase):
    SETTERS = [assign_text, change_text, set_text]

    def test_all_small_texts(self):
        for change in self.SETTERS:
            for x in ["1", "10", "110", "1.10", "01.11.1"]:
                for b, part in enumerate(x.split(".")):
                    for text in texts_of((len(part),)):
                        self.one_text(change, x, b, part, text)

    def one_text(self, change, x, b, part, text):
        device = Device(x)
        none = (0,) * len(sizes_of(x))
        if any(new > old for new, old in zip(text, part)):
            self.changes_nothing(device, Rise, change, device, b, text)
        elif text == part:
            change(device, b, text)
            self.assertEqual(tells(device), (x, 0, 0, none, None, [x]))
        else:
            change(device, b, text)
            parts = x.split(".")
            parts[b] = text
            after = ".".join(parts)
            self.assertEqual(tells(device), (after, 1, 0, none, None, [x, after]))

    def test_it_is_one_write_of_all_its_bits(self):
        for change in self.SETTERS:
            device = Device("1.1111.1")
            device.arm("1.1011.1")
            self.assertEqual(self.raises(Cut, change, device, 1, "0010").found, "1.1011.1")
            self.assertEqual(tells(device), ("1.1011.1", 0, 1, (0, 0, 0), None, ["1.1111.1", "1.1011.1"]))
            device.arm("1.1010.1")
            self.raises(NotInBox, change, device, 1, "0011")
            self.assertEqual((device.pattern, device.armed, device.ended, device.cuts), ("1.1011.1", None, 0, 1))

    def test_no_such_text(self):
        for change in self.SETTERS:
            for armed in [None, "01.1101"]:
                device = Device("11.1101")
                device.arm(armed)
                for text in ["", "0", "000", "00000", "11011", "11.1101", "110x", "x101", "1x01", "11 1", "1*01", "110.",
                             ".110", "1\u066101", "0 00"] + NO_TEXTS:
                    self.assertEqual(self.changes_nothing(device, NoPattern, change, device, 1, text).at, 0)

    def test_no_such_text_comes_ahead_of_rise(self):
        for change in self.SETTERS:
            device = Device("11.0000")
            for text in ["111x", "x111", "1", "11111", "11.1111"]:
                self.assertEqual(self.changes_nothing(device, NoPattern, change, device, 1, text).at, 0)

    def test_rise_leaves_all(self):
        for change in self.SETTERS:
            for text in ["0011", "1111", "1101", "0010"]:
                device = Device("1.1100")
                device.arm("1.0100")
                self.changes_nothing(device, Rise, change, device, 1, text)

    def test_nothing_happens_leaves_a_failure_armed(self):
        for change in self.SETTERS:
            device = Device("1.1100")
            device.arm("0.1100")
            change(device, 1, "1100")
            change(device, 0, "1")
            self.assertEqual(tells(device), ("1.1100", 0, 0, (0, 0), "0.1100", ["1.1100"]))

    def test_no_bit_comes_ahead_of_the_errors_of_the_text(self):
        device = Device("00.11")
        device.arm("00.01")
        for b in [2, -1, True, None, "0"]:
            for text in ["x", "", None, "11", "000", "00"]:
                self.changes_nothing(device, NoBit, device.set_text, b, text)


class EraseTest(DeviceCase):
    def test_each_block(self):
        for x in ["0", "10", "10.0", "01.10.00"]:
            for b, part in enumerate(x.split(".")):
                device = Device(x)
                device.block(b).erase()
                after = end_of(x, ("erase", b))
                erases = tuple(int(k == b) for k in range(len(sizes_of(x))))
                self.assertEqual(tells(device), (after, 1, 0, erases, None, [x, after]))

    def test_nothing_happens_if_no_bit_has_fallen(self):
        device = Device("11.0.11")
        device.arm("11.1.11")
        for b in (0, 2):
            device.block(b).erase()
            self.assertEqual(tells(device), ("11.0.11", 0, 0, (0, 0, 0), "11.1.11", ["11.0.11"]))
        self.raises(Cut, device.block(1).erase)
        self.assertEqual(tells(device), ("11.1.11", 0, 1, (0, 0, 0), None, ["11.0.11", "11.1.11"]))

    def test_not_in_box(self):
        device = Device("00.0")
        device.arm("00.1")
        self.raises(NotInBox, device.block(0).erase)
        self.assertEqual(tells(device), ("00.0", 0, 0, (0, 0), None, ["00.0"]))
        device.block(0).erase()
        self.assertEqual((device.pattern, device.erases), ("11.0", (1, 0)))

    def test_cuts_are_errors_of_the_package(self):
        device = Device("00")
        device.arm("10")
        self.raises(FallenError, device.block(0).erase)


if __name__ == "__main__":
    unittest.main()
