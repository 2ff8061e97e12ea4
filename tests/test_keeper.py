"""Tests of fallenbits.keeper: points 48 to 51 and 2."""

import random
import unittest

from fallenbits.devices import Device
from fallenbits.errors import Cut, Foreign, NoField, NoPattern, NoState, NotInBox, Unlike
from fallenbits.fields import Choice, Count, Joint, Mark, Once, Toggle
from fallenbits.keeper import Keeper, kept
from fallenbits.looks import seen
from fallenbits.rolling import headers_first, move
from tests.blocks import HEADERS, can_begin, content_by_words, contents, live_by_words
from tests.samples import NO_LISTS, NO_TEXTS, ODD_THINGS, box_of, end_of

PAIR = [("mode", Toggle(1)), ("level", Count(2))]
LISTS = [
    [("a", Mark())], [("a", Toggle(1))], [("a", Toggle(2)), ("b", Mark())], PAIR, [("a", Once(["x", "y"])), ("b", Toggle(1))],
    [("p", Choice(("a", "b", "c"), 1)), ("q", Toggle(1)), ("r", Count(1))], [("j", Joint(Toggle(1), Toggle(1), 1))],
    [("j", Joint(Toggle(1), Toggle(1), 1)), ("o", Once(("x",)))]]
NO_NAMES = [thing for thing in ODD_THINGS if thing not in ("x", "a", "fall", "erase")] + ["A", "1a", "a b", "a" * 13, "-a", "a_b"]


def begun(fields):
    """Return a new device and its keeper."""
    device = Device(Keeper.begun(fields))
    return device, Keeper(device, fields)


def parts_of(fields, content):
    """Return tuples (name, field, content of the field)."""
    found, first = [], 0
    for name, field in fields:
        found.append((name, field, content[first:first + field.bits]))
        first += field.bits
    return found


def record_by_words(fields, x, strict=True):
    """Return the record of a pattern, or None if it is foreign; a header may be 00 if not strict."""
    if live_by_words(x) is None or (strict and not can_begin(x)):
        return None
    record = {name: field.state(part) for name, field, part in parts_of(fields, content_by_words(x))}
    return None if None in record.values() else record


def writes_by_words(fields, x, targets):
    """Return the writes by the words of point 50."""
    record = record_by_words(fields, x)
    left = {name: target for name, target in targets if record[name] != target}
    if not left:
        return []
    if len(left) == 1:
        first = live_by_words(x) * (len(x) // 2) + 2
        for name, field, part in parts_of(fields, content_by_words(x)):
            if name in left:
                for bit, sign in enumerate(part):
                    if sign == "1" and field.state(part[:bit] + "0" + part[bit + 1:]) == left[name]:
                        return [("fall", (first + bit,))]
            first += field.bits
    wanted = {**record, **left}
    return move(x, "".join(field.image(wanted[name]) for name, field in fields))


def all_starts(fields):
    """Return all patterns of the sizes of a keeper that are not foreign to it, as few as there are contents."""
    many = sum(field.bits for _, field in fields)
    dice = random.Random(many)
    found = []
    for one in HEADERS:
        for other in HEADERS:
            for content in contents(many):
                x = one + content + "." + other + dice.choice(contents(many))
                y = one + dice.choice(contents(many)) + "." + other + content
                found += [z for z in (x, y) if record_by_words(fields, z) is not None]
    return found


class WorkedTest(unittest.TestCase):
    def test_worked_by_hand(self):
        device = Device(Keeper.begun(PAIR))
        self.assertEqual(device.pattern, "10111.11111")
        keeper = kept(device, mode=Toggle(1), level=Count(2))
        self.assertEqual(keeper.change(mode="on"), 1)
        self.assertEqual((device.pattern, keeper["mode"], keeper.room("mode")), ("10011.11111", "on", 0))
        keeper["mode"] = "off"
        self.assertEqual((device.pattern, keeper.live, keeper.rolls), ("10011.01111", 1, 1))
        self.assertEqual(keeper.change(level="n1"), 1)
        self.assertEqual(keeper.change(mode="on", level="n2"), 3)
        self.assertEqual((device.pattern, keeper.record, keeper.rolls), ("01000.01101", {"mode": "on", "level": "n2"}, 2))
        device.arm("01000.11111")
        with self.assertRaises(Cut) as caught:
            keeper["mode"] = "off"
        self.assertEqual(caught.exception.found, "01000.11111")
        both = {"mode": "on", "level": "n2"}
        self.assertEqual((keeper.record, keeper.told("01000.00111"), keeper.told("01000.01111")), (both, both, both))
        self.assertEqual(keeper.change(mode="off"), 2)
        self.assertEqual(device.pattern, "01000.10100")


class MadeTest(unittest.TestCase):
    def refused(self, part, fields, device=None):
        for call in (Keeper.begun, lambda fields: Keeper(device or Device("1"), fields)):
            with self.assertRaises(NoField) as caught:
                call(fields)
            self.assertEqual(caught.exception.part, part)

    def test_no_list(self):
        for thing in NO_LISTS:
            self.refused(None, thing)
        self.refused(None, [])
        self.refused(None, tuple(PAIR))

    def test_items_that_are_no_pairs(self):
        for thing in [thing for thing in ODD_THINGS if not isinstance(thing, tuple) or len(thing) != 2]:
            self.refused(None, [thing])
            self.refused(None, [*PAIR, thing, ("A", None)])
        self.refused(None, [["mode", Toggle(1)]])
        self.refused(None, [("mode", Toggle(1), 1)])

    def test_names(self):
        for name in NO_NAMES:
            self.refused(name, [(name, Toggle(1))])
            self.refused(name, [*PAIR, (name, None), None, ("mode", Mark())])
        self.refused("mode", [*PAIR, ("mode", Mark()), None])
        self.refused("a", [("a", Mark()), ("a", None), ("A", None)])

    def test_fields(self):
        for thing in [*ODD_THINGS, "toggle 1", Toggle, Device("1")]:
            self.refused("x", [("x", thing)])
            self.refused("x", [*PAIR, ("x", thing), None])

    def test_too_many_bits(self):
        self.assertEqual(Keeper.begun([("a", Count(40)), ("b", Count(18))]), "10" + "1" * 58 + "." + "1" * 60)
        for fields in ([("a", Count(40)), ("b", Count(19))], [("a" + str(n), Mark()) for n in range(59)],
                       [("a", Count(40)), ("b", Count(40))]):
            with self.assertRaises(NoField) as caught:
                Keeper.begun(fields)
            self.assertEqual(caught.exception.part, "bits")
        self.refused("A", [("a", Count(40)), ("b", Count(40)), ("A", Mark())])

    def test_begun(self):
        for fields in LISTS:
            many = sum(field.bits for _, field in fields)
            self.assertEqual(Keeper.begun(fields), "10" + "1" * many + "." + "11" + "1" * many)
            device, keeper = begun(fields)
            self.assertEqual(keeper.record, {name: field.start for name, field in fields})
            self.assertEqual((keeper.live, keeper.rolls, keeper.names, len(keeper)),
                             (0, 0, tuple(name for name, _ in fields), len(fields)))
            self.assertEqual(list(keeper.record), [name for name, _ in fields])
            self.assertEqual((device.ended, device.cuts), (0, 0))

    def test_unlike(self):
        for x in ("10111", "10111.1111", "1011.11111", "101111.111111", "1011.1111", "10111.11111.1", "1", "11111.1111"):
            with self.assertRaises(Unlike):
                Keeper(Device(x), PAIR)
            with self.assertRaises(Unlike):
                kept(Device(x), mode=Toggle(1), level=Count(2))

    def test_foreign(self):
        once = [("a", Once(["x", "y"])), ("b", Toggle(1))]
        for fields, x in ((PAIR, "11111.11111"), (PAIR, "00111.11111"), (PAIR, "00111.10111"), (PAIR, "10111.00111"),
                          (PAIR, "00000.00000"), (once, "10001.11111"), (once, "10111.01000"), (once, "10000.10111")):
            for call in (lambda: Keeper(Device(x), fields), lambda: kept(Device(x), **dict(fields))):
                with self.assertRaises(Foreign) as caught:
                    call()
                self.assertEqual(caught.exception.found, x)
        # The block that is not live may read nothing.
        self.assertEqual(Keeper(Device("10111.10000"), once).record, {"a": "open", "b": "off"})
        self.assertEqual(Keeper(Device("10000.01101"), once).record, {"a": "y", "b": "off"})

    def test_errors_in_their_order(self):
        with self.assertRaises(NoField):
            Keeper(Device("1"), [("A", Mark())])
        with self.assertRaises(Unlike):
            Keeper(Device("11111.111111"), PAIR)

    def test_kept(self):
        device = Device(Keeper.begun(PAIR))
        keeper = kept(device, level=Count(2), mode=Toggle(1))
        self.assertEqual(keeper.names, ("level", "mode"))
        self.assertEqual(kept(device, **{"a-b": Toggle(3)}).record, {"a-b": "off"})
        with self.assertRaises(NoField) as caught:
            kept(device)
        self.assertIsNone(caught.exception.part)
        with self.assertRaises(NoField) as caught:
            kept(device, level=Count(2), Mode=Toggle(1), other=None)
        self.assertEqual(caught.exception.part, "Mode")
        with self.assertRaises(NoField) as caught:
            kept(device, level=2)
        self.assertEqual(caught.exception.part, "level")

    def test_all_patterns(self):
        for fields in LISTS[:5]:
            many = sum(field.bits for _, field in fields)
            for x in [one + c + "." + other + d for one in HEADERS for other in HEADERS
                      for c in contents(many) for d in contents(many)[::3]]:
                expected = record_by_words(fields, x)
                if expected is None:
                    with self.assertRaises(Foreign):
                        Keeper(Device(x), fields)
                else:
                    keeper = Keeper(Device(x), fields)
                    self.assertEqual((keeper.record, keeper.live), (expected, live_by_words(x)))


class ChangeTest(unittest.TestCase):
    def test_against_the_words(self):
        dice = random.Random(1)
        kinds = {}
        for fields in LISTS:
            for x in dice.sample(all_starts(fields), 25):
                record = record_by_words(fields, x)
                for _ in range(6):
                    chosen = [(name, field) for name, field in fields if dice.random() < 0.7]
                    dice.shuffle(chosen)
                    targets = [(name, dice.choice([record[name], *field.targets(record[name])])) for name, field in chosen]
                    writes = self.look_at(fields, x, targets)
                    kinds[len(writes)] = kinds.get(len(writes), 0) + 1
        self.assertGreater(min(kinds[many] for many in (0, 1, 2, 3)), 20)

    def look_at(self, fields, x, targets):
        """Look what a keeper does for some targets, by pairs and by keywords; return the writes that are due."""
        expected = writes_by_words(fields, x, targets)
        is_move = bool(expected) and (len(expected) > 1 or expected[0][1][0] % (len(x) // 2) < 2)
        for call in (lambda keeper: keeper.put(list(targets)), lambda keeper: keeper.change(**dict(targets))):
            device = Device(x)
            keeper = Keeper(device, fields)
            self.assertEqual(call(keeper), len(expected))
            stood, here = [x], x
            for write in expected:
                here = end_of(here, write)
                stood.append(here)
            self.assertEqual(device.stood(), stood, (x, targets))
            self.assertEqual(keeper.record, {**record_by_words(fields, x), **dict(targets)})
            self.assertEqual(keeper.rolls, 1 if is_move else 0)
        return expected

    def test_each_failure_of_each_write(self):
        dice = random.Random(2)
        for fields in LISTS[:6]:
            for x in dice.sample(all_starts(fields), 6):
                record = record_by_words(fields, x)
                targets = [(name, dice.choice([record[name], *field.targets(record[name])])) for name, field in fields]
                writes, here = writes_by_words(fields, x, targets), x
                for number, write in enumerate(writes):
                    for z in box_of(here, end_of(here, write)):
                        self.look_at_failure(fields, x, targets, number, z)
                    here = end_of(here, write)

    def look_at_failure(self, fields, x, targets, number, z):
        """Look what stands if the power fails with z in the write with a number, and that the change can be done then."""
        old, new = record_by_words(fields, x), {**record_by_words(fields, x), **dict(targets)}
        writes = writes_by_words(fields, x, targets)
        is_end = number == len(writes) - 1 and z == end_of(x if number == 0 else self.behind(x, writes[:number]), writes[number])
        for again in (False, True):
            device = Device(x)
            keeper = Keeper(device, fields)
            if number == 0:
                device.arm(z)
                with self.assertRaises(Cut):
                    keeper.put(targets)
            else:
                # The write with this number is reached by writes that are done as the keeper does them.
                for write in writes[:number]:
                    device.do(write)
                device.arm(z)
                with self.assertRaises(Cut):
                    device.do(writes[number])
            self.assertEqual(keeper.record, new if is_end else old, (x, targets, number, z))
            self.assertEqual(keeper.rolls, 0)
            keeper = Keeper(device, fields) if again else keeper
            keeper.put(targets)
            self.assertEqual(keeper.record, new)

    def behind(self, x, writes):
        for write in writes:
            x = end_of(x, write)
        return x

    def test_a_move_that_is_cut_late(self):
        # Three writes; each is cut by a device that arms itself behind the write ahead of it.
        class Armed(Device):
            def do(self, write):
                if self.ended == self.at and self.armed is None and self.z is not None:
                    self.arm(self.z)
                    self.z = None
                return Device.do(self, write)

        x = "10000.01101"
        targets = [("mode", "on"), ("level", "n2")]
        writes = move(x, "000")
        self.assertEqual(len(writes), 3)
        here = x
        for at, write in enumerate(writes):
            after = end_of(here, write)
            for z in box_of(here, after):
                device = Armed(x)
                device.at, device.z = at, z
                keeper = Keeper(device, PAIR)
                with self.assertRaises(Cut) as caught:
                    keeper.put(targets)
                self.assertEqual(caught.exception.found, z)
                self.assertEqual((device.ended, keeper.rolls), (at, 0))
                done = at == 2 and z == after
                self.assertEqual(keeper.record, dict(targets) if done else {"mode": "off", "level": "n1"})
                keeper.put(targets)
                self.assertEqual((keeper.record, keeper.rolls), (dict(targets), 0 if done else 1))
            here = after

    def test_the_present_state_stays(self):
        device, keeper = begun(PAIR)
        device.arm("11111.11111")
        self.assertEqual(keeper.put([]), 0)
        self.assertEqual(keeper.change(), 0)
        self.assertEqual(keeper.change(mode="off", level="n0"), 0)
        keeper["mode"] = "off"
        self.assertEqual((device.armed, device.ended), ("11111.11111", 0))
        device.arm(None)
        # Of two fields one stays, so the other one is changed in place.
        self.assertEqual(keeper.change(mode="off", level="n1"), 1)
        self.assertEqual((device.pattern, keeper.rolls), ("10101.11111", 0))

    def test_not_in_box(self):
        device, keeper = begun(PAIR)
        device.arm("10111.01111")
        with self.assertRaises(NotInBox):
            keeper["mode"] = "on"
        self.assertEqual((device.pattern, device.armed, keeper.record), ("10111.11111", None, {"mode": "off", "level": "n0"}))
        device.arm("00000.00000")
        with self.assertRaises(NotInBox):
            keeper.change(mode="on", level="n1")
        self.assertEqual((keeper.rolls, keeper.change(mode="on", level="n1"), keeper.rolls), (0, 2, 1))

    def test_for_ever(self):
        dice = random.Random(3)
        for fields in LISTS:
            device, keeper = begun(fields)
            record, moves = keeper.record, 0
            for _ in range(150):
                targets = [(name, dice.choice([record[name], *field.targets(record[name])])) for name, field in fields]
                before = (device.ended, live_by_words(device.pattern))
                if dice.random() < 0.3:
                    writes = writes_by_words(fields, device.pattern, targets)
                    if writes:
                        z = dice.choice(box_of(device.pattern, end_of(device.pattern, writes[0])))
                        device.arm(z)
                        with self.assertRaises(Cut):
                            keeper.put(targets)
                        self.assertIn(keeper.record, (record, {**record, **dict(targets)}))
                        before = (device.ended, live_by_words(device.pattern))
                self.assertEqual(keeper.put(targets), device.ended - before[0])
                moves += live_by_words(device.pattern) != before[1]
                record.update(dict(targets))
                self.assertEqual(keeper.record, record)
                self.assertEqual(keeper.rolls, moves)
            if fields[0][0] in ("a", "p", "j") and isinstance(fields[0][1], Toggle):
                self.assertGreater(moves, 20)


class ErrorTest(unittest.TestCase):
    def no_field(self, name, call, *given):
        with self.assertRaises(NoField) as caught:
            call(*given)
        self.assertEqual(caught.exception.part, name)

    def test_names_that_are_no_fields(self):
        device, keeper = begun(PAIR)
        for name in [*ODD_THINGS, "modes", "Mode", "mode ", "a"]:
            self.no_field(name, lambda: keeper[name])
            self.no_field(name, keeper.__setitem__, name, "on")
            self.no_field(name, keeper.room, name)
            self.no_field(name, keeper.put, [(name, "on")])
            self.no_field(name, keeper.put, [("mode", "x"), (name, "on"), ("other", 1)])
            self.assertIs(name in keeper, False)
        self.assertTrue("mode" in keeper and "level" in keeper)
        self.no_field("mode", keeper.put, [("mode", "on"), ("level", "x"), ("mode", "on"), ("x", 1)])
        self.no_field("other", lambda: keeper.change(mode="x", other=1, another=2))
        self.assertEqual((device.pattern, device.ended), ("10111.11111", 0))

    def test_targets_that_are_no_list_of_pairs(self):
        device, keeper = begun(PAIR)
        for thing in [*NO_LISTS, [None], ["mode"], [["mode", "on"]], [("mode",)], [("mode", "on", 1)], [("mode", "on"), None]]:
            self.no_field(None, keeper.put, thing)
        self.assertEqual(device.ended, 0)

    def test_no_state(self):
        device, keeper = begun(PAIR)
        for target in [*ODD_THINGS, "n0", "set", "On"]:
            for call in (lambda: keeper.put([("mode", target)]), lambda: keeper.change(level="n1", mode=target),
                         lambda: keeper.__setitem__("mode", target)):
                with self.assertRaises(NoState):
                    call()
        with self.assertRaises(NoState):
            keeper.change(level="n2")
        with self.assertRaises(NoState):
            keeper.change(mode="on", level="n2")
        self.assertEqual((device.pattern, device.ended, keeper.rolls), ("10111.11111", 0, 0))
        keeper.change(level="n1")
        with self.assertRaises(NoState):
            keeper.change(level="n0")

    def test_a_foreign_device(self):
        once = [("a", Once(["x", "y"])), ("b", Toggle(1))]
        for x, writes in (("00111.11111", [("fall", (0,))]), ("10001.11111", [("fall", (2,)), ("fall", (3,))]),
                          ("11111.11111", [("erase", 0)]), ("00111.00111", [("fall", (0, 5, 6))])):
            device, keeper = begun(once)
            for write in writes:
                device.do(write)
            self.assertEqual(device.pattern, x)
            calls = [lambda: keeper.record, lambda: keeper.live, lambda: keeper["a"], lambda: keeper.room("a"),
                     lambda: keeper.put([]), lambda: keeper.change(), lambda: keeper.put([("b", "zz")]),
                     lambda: keeper.change(b="on"), lambda: keeper.__setitem__("b", "on")]
            for call in calls:
                with self.assertRaises(Foreign) as caught:
                    call()
                self.assertEqual(caught.exception.found, x)
            self.no_field("c", lambda: keeper["c"])
            self.no_field("c", keeper.room, "c")
            self.no_field("c", keeper.put, [("b", "zz"), ("c", 1)])
            self.no_field("c", lambda: keeper.change(c=1))
            self.assertEqual((keeper.names, keeper.rolls, len(keeper), "a" in keeper, keeper.order()),
                             (("a", "b"), 0, 2, True, headers_first(x)))
            self.assertEqual(keeper.told("10111.11111"), {"a": "open", "b": "off"})
            self.assertEqual(device.pattern, x)

    def test_told(self):
        for fields in LISTS[:5]:
            _, keeper = begun(fields)
            many = sum(field.bits for _, field in fields)
            for x in [one + c + "." + other + d for one in HEADERS for other in HEADERS
                      for c in contents(many) for d in contents(many)[::3]]:
                self.assertEqual(keeper.told(x), record_by_words(fields, x, False), x)
        _, keeper = begun(PAIR)
        for thing in [*NO_TEXTS, "", "10111.", "1x"]:
            with self.assertRaises(NoPattern):
                keeper.told(thing)
        for x in ("1", "10111", "1011.1111", "10111.11111.1", "101111.11111"):
            with self.assertRaises(Unlike):
                keeper.told(x)


class UpToDateTest(unittest.TestCase):
    def test_beside_another_keeper(self):
        device, one = begun(PAIR)
        other = Keeper(device, [("steps", Count(3))])
        one.change(mode="on")
        self.assertEqual(other.record, {"steps": "n1"})
        other.change(steps="n2")
        self.assertEqual(one.record, {"mode": "on", "level": "n1"})
        one.change(mode="off", level="n2")
        self.assertEqual((one.rolls, other.rolls, one.live, other.live), (1, 0, 1, 1))
        self.assertEqual(one.record, {"mode": "off", "level": "n2"})
        self.assertEqual(other.record, {"steps": "n2"})

    def test_beside_writes_of_the_device(self):
        device, keeper = begun(PAIR)
        device.do(("fall", (2, 4)))
        self.assertEqual((keeper.record, keeper["level"], keeper.room("mode")), ({"mode": "on", "level": "n1"}, "n1", 0))
        device.do(("fall", (5,)))
        self.assertEqual((keeper.record, keeper.live, keeper.rolls), ({"mode": "off", "level": "n0"}, 1, 0))
        self.assertEqual(keeper.room("mode"), 1)
        device.do(("erase", 1))
        self.assertEqual((keeper.live, keeper.record), (0, {"mode": "on", "level": "n1"}))
        self.assertEqual(keeper.change(mode="off"), 2)

    def test_rooms(self):
        device, keeper = begun([("p", Choice(("a", "b", "c"), 2)), ("q", Toggle(3)), ("m", Mark())])
        self.assertEqual([keeper.room(name) for name in keeper.names], [2, 3, "ever"])
        keeper["p"] = "b"
        keeper["q"] = "on"
        self.assertEqual([keeper.room(name) for name in keeper.names], [1, 2, "ever"])
        keeper["p"] = "c"
        self.assertEqual((keeper.room("p"), keeper.rolls, device.ended), (0, 0, 3))
        # From c to a is the label 1 again: by a move to the images of a, on and clear.
        keeper["p"] = "a"
        self.assertEqual([keeper.room(name) for name in keeper.names], [2, 2, "ever"])
        self.assertEqual((keeper.rolls, device.pattern), (1, "1000110111.0111110111"))

    def test_what_is_told_is_a_new_dict(self):
        _, keeper = begun(PAIR)
        for call in (lambda: keeper.record, lambda: keeper.told("10111.11111")):
            call().clear()
            self.assertEqual(call(), {"mode": "off", "level": "n0"})

    def test_arguments_stay(self):
        fields = list(PAIR)
        device = Device(Keeper.begun(fields))
        keeper = Keeper(device, fields)
        fields.clear()
        self.assertEqual(keeper.names, ("mode", "level"))
        targets = [("mode", "on"), ("level", "n1")]
        keeper.put(targets)
        self.assertEqual(targets, [("mode", "on"), ("level", "n1")])

    def test_order(self):
        for fields in LISTS:
            device, keeper = begun(fields)
            self.assertEqual(keeper.order(), headers_first(device.pattern))

    def test_a_slow_reader(self):
        dice = random.Random(4)
        for fields in LISTS[:6]:
            device, keeper = begun(fields)
            for _ in range(20):
                old, x = keeper.record, device.pattern
                targets = [(name, dice.choice([old[name], *field.targets(old[name])])) for name, field in fields]
                writes = writes_by_words(fields, x, targets)
                keeper.put(targets)
                for z in seen(x, writes, keeper.order()):
                    self.assertIn(keeper.told(z), (old, keeper.record))


if __name__ == "__main__":
    unittest.main()
