"""Tests of fallenbits.barred: points 4, 28, 29 and 2."""

import itertools
import random
import unittest

from fallenbits.barred import is_barred, is_table
from fallenbits.stores import Store
from fallenbits.worths import worths
from tests.levels import EVER, at_least, counted, sets_hold, states_of, table_holds
from tests.runs import some_store
from tests.samples import NO_LISTS, NO_NUMBERS, NO_TEXTS, NO_TUPLES, ODD_THINGS, texts_of

STORE = Store([3], [("111", "a"), ("000", "b"), ("**0", "b")], [("a", "b"), ("b", "a")])
FALLS = worths(STORE, False).rows()
ERASED = worths(STORE).rows()
SETS = [(1, "b", "a", ("000", "010", "100", "110")), (2, "a", "b", ("111",))]

# Two bits: 11 and 10 and 01 read a, 00 reads b; c is never read, d has no change.
WIDE = Store([2, 1], [("11.1", "a"), ("1*.1", "a"), ("*1.1", "a"), ("00.1", "b"), ("00.0", "d")],
             [("a", "b"), ("b", "a"), ("a", "d")])

HUGE = 10 ** 60
DEEP = ()
for _ in range(50):
    DEEP = (DEEP,)
ANYTHING = ODD_THINGS + [DEEP, [DEEP], HUGE, "x" * 6000, [None] * 2000, {"rows": []}]
NO_RANKS = [thing for thing in NO_NUMBERS if thing != EVER] + [-1, -HUGE, "Ever", "ever ", ["ever"], ("ever",)]


class Case(unittest.TestCase):
    def table(self, right, rows, store=STORE, erases=True):
        self.assertIs(is_table(store, rows, erases), right, rows)

    def barred(self, right, sets, store=STORE, erases=False):
        self.assertIs(is_barred(store, sets, erases), right, sets)


class RightTableTest(Case):
    def test_what_worths_tells(self):
        self.table(True, FALLS, erases=False)
        self.table(True, ERASED)
        self.table(True, worths(WIDE).rows(), WIDE)
        self.table(True, worths(WIDE, False).rows(), WIDE, False)

    def test_erases_may_be_left_out_or_named(self):
        self.assertIs(is_table(STORE, ERASED), True)
        self.assertIs(is_table(STORE, ERASED, erases=False), False)
        self.assertIs(is_barred(STORE, SETS), False)
        self.assertIs(is_barred(STORE, SETS, erases=False), True)

    def test_a_table_of_falls_holds_where_blocks_can_be_erased_and_not_the_other_way_round(self):
        self.table(True, FALLS)
        self.table(False, ERASED, erases=False)

    def test_the_empty_list(self):
        for erases in (True, False):
            self.table(True, [], erases=erases)
            self.table(True, [], Store([1], [], []), erases)

    def test_rows_left_out(self):
        # No row is needed but those of the boxes.
        for rows in (FALLS[3:], FALLS[:1] + FALLS[3:], FALLS[:4], FALLS[1:2], ERASED[3:]):
            self.table(True, rows)
        self.table(False, FALLS[4:])
        self.table(False, FALLS[:3] + FALLS[4:])
        self.table(False, ERASED[4:])

    def test_lower_ranks(self):
        self.table(True, [("110", 0, ()), ("111", 0, ())])
        erase, fall = (("a", ("erase", 0), 1),), (("b", ("fall", (2,)), 1),)
        for low, high in ((1, 1), (1, 2), (2, 1), (7, 7), (HUGE, HUGE + 1), (2, 3), (3, 2), (0, 1), (EVER, EVER)):
            self.table(True, [("110", low, erase if low else ()), ("111", high, fall if high else ())])
        for low, high in ((1, 3), (0, 2), (3, 1), (HUGE, HUGE + 2), (EVER, 7), (7, EVER), (0, EVER)):
            self.table(False, [("110", low, erase if low else ()), ("111", high, fall if high else ())])
        self.table(True, [(x, 0, ()) for x in states_of(STORE)])

    def test_a_state_without_changes_may_have_each_rank(self):
        store = Store([2], [("1*", "a"), ("0*", "b")], [("a", "b")])
        for rank in (0, 1, 7, HUGE, EVER):
            self.table(True, [("00", rank, ())], store)
            self.table(True, [("00", 0, ()), ("01", rank, ())], store)
            self.table(False, [("00", rank, (("a", ("erase", 0), 1),))], store)

    def test_writes_of_several_bits(self):
        store = Store([2], [("11", "a"), ("00", "b"), ("**", "b")], [("a", "b")])
        row = ("11", 3, (("b", ("fall", (0, 1)), 1),))
        zeros = [(x, 2, ()) for x in ("00", "01", "10")]
        self.table(True, zeros + [row], store, False)
        for at in range(3):
            self.table(False, zeros[:at] + zeros[at + 1:] + [row], store, False)
            self.table(False, zeros[:at] + [(zeros[at][0], 1, ())] + zeros[at + 1:] + [row], store, False)

    def test_an_end_with_a_greater_rank_or_a_lesser_distance(self):
        store = Store([2], [("00", "b"), ("**", "a")], [("a", "b")])
        last = [("00", 4, ())]
        for middle in (2, 1):
            self.table(True, last + [("01", 2, (("b", ("fall", (1,)), middle),)), ("11", 2, (("b", ("fall", (0,)), middle + 1),))],
                       store)
            for told in (1, middle):
                self.table(False, last + [("01", 2, (("b", ("fall", (1,)), middle),)), ("11", 2, (("b", ("fall", (0,)), told),))],
                           store)
            # A greater rank needs no lesser distance.
            self.table(True, last + [("01", 3, (("b", ("fall", (1,)), middle + 5),)), ("11", 2, (("b", ("fall", (0,)), 1),))],
                       store)
            self.table(False, last + [("01", 1, (("b", ("fall", (1,)), middle),)), ("11", 2, (("b", ("fall", (0,)), 9),))], store)
        self.table(True, last + [("01", 2, (("b", ("fall", (1,)), 1),)), ("11", 2, (("b", ("fall", (0,)), HUGE),))], store)


class WrongTableTest(Case):
    def test_anything(self):
        for erases in (True, False):
            for thing in NO_LISTS + [tuple(FALLS), {"111": 1}, DEEP, "rows"]:
                self.table(False, thing, erases=erases)
            for thing in ANYTHING:
                self.table(thing == [], thing, erases=erases)
                self.table(False, [thing], erases=erases)
                self.table(False, FALLS[:4] + [thing])
                self.table(False, [thing] + FALLS)

    def test_order(self):
        for rows in itertools.permutations(FALLS):
            self.table(list(rows) == FALLS, list(rows))

    def test_a_pattern_twice(self):
        for at in range(5):
            self.table(False, FALLS[:at] + [FALLS[at]] + FALLS[at:])

    def test_patterns(self):
        for x in NO_TEXTS + ["", "0", "0000", "00.0", "0*0", "00x", "000 "]:
            self.table(False, [(x, 0, ())])
        for x in ("001", "011", "101"):
            self.table(False, [(x, 0, ())])
        self.table(True, [("110", 0, ())])

    def test_ranks(self):
        for rank in NO_RANKS:
            self.table(False, [("110", rank, ())])
            self.table(False, [("110", 0, ()), ("111", rank, (("b", ("fall", (2,)), 1),))])
            self.table(False, [("00", rank, ())], Store([2], [("**", "b")], []))
        # True is 1 and False is 0, but no ranks.
        self.table(False, [("110", False, ())])
        self.table(False, [("110", 0, ()), ("111", True, (("b", ("fall", (2,)), 1),))])

    def test_forms_of_rows(self):
        for row in [["110", 0, ()], ("110", 0), ("110", 0, (), ()), ("110", 0, []), ("110", 0, None), ("110", 0, ((),)),
                    (0, "110", ()), ("110", (), 0), ("110",), (("110", 0, ()),)]:
            self.table(False, [row])

    def test_entries(self):
        two = Store([2], [("11", "a"), ("10", "b"), ("01", "c"), ("00", "d")], [("a", "c"), ("a", "b"), ("d", "a")])
        low = [("01", 5, ()), ("10", 5, ())]
        one, other = ("b", ("fall", (1,)), 1), ("c", ("fall", (0,)), 1)
        self.table(True, low + [("11", 6, (one, other))], two)
        for moves in [(), (one,), (other,), (other, one), (one, one), (one, other, one), (one, other, other), [one, other],
                      (one, list(other)), (one, other[:2]), (one, other + (1,)), (one, None), one + other, {one: other},
                      (one, ("c", ("fall", (0,)), True)), (one, ("d", ("fall", (0,)), 1)), (("a",) + one[1:], other),
                      ((None,) + one[1:], other), ((["b"],) + one[1:], other)] + NO_TUPLES:
            self.table(False, low + [("11", 6, moves)], two)
        # An entry where there must be none: the rank is 0, or there is no change.
        for moves in ((one, other), (one,), (None,), [], None, 0, ""):
            self.table(False, low + [("11", 0, moves)], two)
        self.table(False, low[:1] + [("10", 5, (one,))], two)
        self.table(True, low + [("11", 0, ())], two)

    def test_distances(self):
        for many in NO_NUMBERS + [0, -1, -HUGE]:
            self.table(False, [("110", 0, ()), ("111", 1, (("b", ("fall", (2,)), many),))])
        for many in (1, 2, HUGE):
            self.table(True, [("110", 0, ()), ("111", 1, (("b", ("fall", (2,)), many),))])

    def test_writes(self):
        for write in ANYTHING + [("fall", 2), ("fall", [2]), ["fall", (2,)], ("fall", (3,)), ("fall", (-1,)), ("fall", (True,)),
                                 ("fall", (2, 1)), ("fall", (2, 2)), ("fall", ()), ("erase", 0), ("erase", 1), ("fall", (2,), 0),
                                 ("fall", (0,)), ("fall", (1,)), ("fall", (1, 2)), ("fall", (0, 1, 2))]:
            self.table(False, [(x, 0, ()) for x in ("000", "010", "100", "110")] + [("111", 1, (("b", write, 1),))])

    def test_an_erase_where_there_are_none(self):
        self.table(True, ERASED[3:], erases=True)
        self.table(False, ERASED[3:], erases=False)

    def test_a_box_that_leaves_the_rows(self):
        for at in range(2):
            self.table(False, ERASED[3:][:at] + ERASED[3:][at + 1:])

    def test_an_end_that_comes_no_nearer(self):
        # From 110 to 111 by the erase and back by the fall: b never comes, whatever the distances.
        store = Store([3], [("11*", "a"), ("000", "b")], [("a", "b")])
        for one, other in itertools.product((1, 2, 3), repeat=2):
            self.table(False, [("110", 1, (("b", ("erase", 0), one),)), ("111", 1, (("b", ("fall", (2,)), other),))], store)

    def test_no_told_rank_is_greater_than_the_true_one(self):
        dice = random.Random(21)
        told = {True: 0, False: 0}
        while sum(told.values()) < 400:
            store = some_store(dice, dice.choice([(2,), (1, 1), (3,), (2, 1)]), dice.choice(["ab", "abc"]), 0.1, 3)
            erases = dice.random() < 0.5
            ranks = counted(store, erases)
            rows = worths(store, erases).rows()
            places = [at for at, row in enumerate(rows) if row[2]]
            if not places:
                continue
            rows = self.changed(dice, rows, dice.choice(places))
            holds = table_holds(store, rows, erases)
            self.table(holds, rows, store, erases)
            told[holds] += 1
            if holds:
                self.assertTrue(all(at_least(ranks[x], rank) for x, rank, moves in rows))
        self.assertTrue(min(told.values()) > 50, told)

    def changed(self, dice, rows, at):
        """Return the rows with one of them left out, or with another rank, distances or writes."""
        x, rank, moves = rows[at]
        kind = dice.choice(["rank", "distance", "write", "row"])
        if kind == "row":
            return rows[:at] + rows[at + 1:]
        if kind == "rank":
            rank = dice.choice([0, 1, 2, EVER])
            moves = moves if rank else ()
        elif kind == "distance":
            moves = tuple((t, write, max(1, many + dice.choice([-1, 1]))) for t, write, many in moves)
        else:
            moves = tuple((t, dice.choice([("fall", (0,)), ("fall", (1,)), ("erase", 0)]), many) for t, _, many in moves)
        return rows[:at] + [(x, rank, moves)] + rows[at + 1:]


class RightSetsTest(Case):
    def test_worked_by_hand(self):
        self.barred(True, SETS)

    def test_what_worths_tells(self):
        for store in (STORE, WIDE):
            for erases in (True, False):
                self.barred(True, worths(store, erases).sets(), store, erases)

    def test_the_empty_list(self):
        for erases in (True, False):
            self.barred(True, [], erases=erases)
            self.barred(True, [], Store([1], [], []), erases)

    def test_one_after_the_other(self):
        # Without erases 000 never falls; then from 010 and 100 it is reached only.
        parts = [(1, "b", "a", ("000",)), (1, "b", "a", ("010",)), (1, "b", "a", ("100",)), (1, "b", "a", ("110",)), SETS[1]]
        self.barred(True, parts)
        self.barred(True, parts[:3])
        self.barred(True, [parts[0], parts[2], parts[1]] + parts[3:])
        self.barred(True, parts + SETS + parts)
        self.barred(False, parts[1:])
        self.barred(False, parts[::-1])
        self.barred(False, parts[:3] + SETS[1:])

    def test_numbers(self):
        for k in (1, 2, 3, 7, HUGE):
            self.barred(True, [(k, "b", "a", ("000", "010", "100", "110"))])
            # An earlier tuple counts for t if its number is at most one less.
            self.barred(k == 1, [(k, "b", "a", ("000", "010", "100", "110")), (2, "a", "b", ("111",))])
            self.barred(True, [(k, "b", "a", ("000", "010", "100", "110")), (k + 1, "a", "b", ("111",))])
            self.barred(True, [(k, "b", "a", ("000", "010", "100", "110")), (k + 7, "a", "b", ("111",))])
            self.barred(False, [(k, "b", "a", ("000", "010", "100", "110")), (k, "a", "b", ("111",))])
            # And for s if its number is at most the same.
            self.barred(True, [(k, "b", "a", ("000",)), (k, "b", "a", ("010",))])
            self.barred(True, [(k, "b", "a", ("000",)), (k + 1, "b", "a", ("010",))])
            self.barred(False, [(k + 1, "b", "a", ("000",)), (k, "b", "a", ("010",))])
            # The least number counts, wherever it stands.
            self.barred(True, [(k + 1, "b", "a", ("000",)), (k, "b", "a", ("000",)), (k, "b", "a", ("010",))])
            self.barred(True, [(k, "b", "a", ("000",)), (k + 1, "b", "a", ("000",)), (k, "b", "a", ("010",))])

    def test_the_write_must_end_in_the_tuple_itself(self):
        # A box pattern of the tuple that is not the end bars nothing.
        store = Store([2], [("11", "a"), ("10", "a"), ("00", "b")], [("a", "b")])
        self.barred(False, [(1, "a", "b", ("10", "11"))], store)
        self.barred(False, [(1, "a", "b", ("11",))], store)

    def test_a_box_with_nothing_or_a_third_state(self):
        store = Store([2], [("11", "a"), ("01", "c")], [("a", "b"), ("c", "b"), ("a", "c")])
        self.barred(True, [(1, "a", "b", ("11",))], store)
        self.barred(False, [(1, "a", "c", ("11",))], store)
        self.barred(True, [(1, "c", "b", ("01",)), (2, "a", "c", ("11",))], store)

    def test_erases(self):
        self.barred(True, [(1, "b", "a", ("000", "010", "100"))], erases=True)
        self.barred(False, SETS[:1], erases=True)
        self.barred(True, [(1, "b", "a", ("000", "010", "100"))], erases=False)


class WrongSetsTest(Case):
    def test_anything(self):
        for erases in (True, False):
            for thing in NO_LISTS + [tuple(SETS), {1: SETS[0]}, DEEP, "sets"]:
                self.barred(False, thing, erases=erases)
            for thing in ANYTHING:
                self.barred(thing == [], thing, erases=erases)
                self.barred(False, [thing], erases=erases)
                self.barred(False, SETS + [thing])
                self.barred(False, SETS[:1] + [thing] + SETS[1:])

    def test_order(self):
        self.barred(False, SETS[::-1])
        self.barred(False, SETS[1:])

    def test_numbers(self):
        for k in NO_NUMBERS + [0, -1, -HUGE, EVER]:
            self.barred(False, [(k, *SETS[0][1:])])
        self.barred(False, [(True, *SETS[0][1:])])

    def test_states(self):
        for s, t in [("a", "b"), ("b", "b"), ("b", "c"), ("c", "a"), ("b", ""), ("a", "a"), (None, "a"), ("b", None), (["b"], "a"),
                     ("b", ["a"]), (("b", "a"), "a")]:
            self.barred(False, [(1, s, t, SETS[0][3])])
        for thing in ANYTHING:
            self.barred(False, [(1, thing, "a", SETS[0][3])])
            self.barred(thing == "a", [(1, "b", thing, SETS[0][3])])

    def test_patterns(self):
        for members in [(), ("010", "000"), ("000", "000"), ("000", "010", "010"), ["000"], "000", ("000", "111"), ("000", "001"),
                        ("000", "0"), ("000", "01.0"), ("000", None), ("000", ["010"]), (("000",),), {"000": 1}, None,
                        ("000", True), ("", "000"), ("000", "0*0")]:
            self.barred(False, [(1, "b", "a", members)])
        self.barred(True, [(1, "b", "a", ("000", "010"))])

    def test_forms(self):
        for stuck in [list(SETS[0]), SETS[0][:3], SETS[0] + (1,), SETS[0][1:], (SETS[0],), ("b", "a", 1, SETS[0][3]), ()]:
            self.barred(False, [stuck])

    def test_tuples_that_do_not_hold(self):
        self.barred(False, [(1, "b", "a", ("010",))])
        self.barred(False, [(1, "b", "a", ("000", "110"))])
        self.barred(False, [(2, "a", "b", ("111",))])
        self.barred(False, [(2, "b", "a", ("000", "010", "100", "110")), SETS[1]])

    def test_each_pattern_in_a_list_that_holds_has_a_lesser_rank(self):
        dice = random.Random(22)
        told = {True: 0, False: 0}
        for _ in range(500):
            store = some_store(dice, dice.choice([(2,), (1, 1), (3,), (2, 1)]), dice.choice(["ab", "abc"]), 0.1, 3)
            erases = dice.random() < 0.5
            sets = worths(store, erases).sets()
            kind = dice.choice(["drop", "swap", "number", "member", "further"])
            if sets and kind == "drop":
                del sets[dice.randrange(len(sets))]
            elif sets and kind == "swap":
                at = dice.randrange(len(sets))
                sets = sets[at:] + sets[:at]
            elif sets and kind == "number":
                at = dice.randrange(len(sets))
                sets[at] = (max(1, sets[at][0] + dice.choice([-1, 1])), *sets[at][1:])
            elif sets and kind == "member":
                at = dice.randrange(len(sets))
                members = list(sets[at][3])
                del members[dice.randrange(len(members))]
                if not members:
                    continue
                sets[at] = (*sets[at][:3], tuple(members))
            elif store.changes():
                s, t = dice.choice(store.changes())
                members = [x for x, name in states_of(store).items() if name == s]
                if not members:
                    continue
                sets.insert(dice.randint(0, len(sets)), (1, s, t, (dice.choice(members),)))
            holds = sets_hold(store, sets, erases)
            self.barred(holds, sets, store, erases)
            told[holds] += 1
            if holds:
                ranks = counted(store, erases)
                self.assertTrue(all(not at_least(ranks[x], k) for k, s, t, members in sets for x in members))
        self.assertTrue(min(told.values()) > 50, told)

    def test_what_was_passed_stays(self):
        rows, sets = list(FALLS), list(SETS)
        self.table(True, rows)
        self.barred(True, sets)
        self.assertEqual((rows, sets), (FALLS, SETS))
        self.table(True, rows)
        self.barred(True, sets)


if __name__ == "__main__":
    unittest.main()
