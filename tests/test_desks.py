import random

from tests.helpers import Case, chosen_families, every_lot, gated_families, gated_sample, small_families
from tests.test_glue import BROKEN, ONE, PARITY, UNEVEN
from turnlots.away import within
from turnlots.bonds import bonds
from turnlots.book import book
from turnlots.bothways import works_both_ways
from turnlots.breaks import find_break, is_gated
from turnlots.critical import critical
from turnlots.depths import deepest
from turnlots.desks import Desk
from turnlots.errors import (
    BadLot, BadNumber, BadThing, BadWish, EmptyDesk, LotsError, NoLot, NotEven, NotGated, NotHanded, OtherSize, TooMany,
)
from turnlots.even import is_even
from turnlots.families import Family
from turnlots.full import is_full
from turnlots.glue import Glue
from turnlots.merges import join, merge
from turnlots.partings import finest
from turnlots.small import forget, grown, in_of, out_of
from turnlots.wishes import Wish

NAMES = ("turn", "hold", "leave", "drop", "merge_two", "join_with", "glue_in", "grow", "widen", "want")


def start(family, numbers=None):
    """A desk with the family and these numbers as its wish, 1, 2, 3 and so on if none are given."""
    desk = Desk(family)
    desk.want(numbers or list(range(1, family.size + 1)))
    return desk


def state(desk):
    return repr((desk.family_now.size, desk.family_now.lots, desk.wish_now.numbers, desk.many, told(desk.deeds())))


def told(words):
    """The words with their families written out."""
    return [
        tuple((part.size, part.lots) if isinstance(part, Family) else part for part in word) for word in words
    ]


def random_word(desk, chooser):
    """A word of some deed, right or wrong for the family of the desk."""
    size = desk.family_now.size
    x, y = chooser.randrange(size), chooser.randrange(size + 1)
    words = [("hold", x), ("leave", x), ("drop", x), ("merge_two", x, y), ("grow", y), ("widen",)]
    words += [("turn", chooser.sample(range(size), chooser.randint(0, size))), ("glue_in", x, chooser.choice((ONE, PARITY)), 1)]
    words += [("join_with", chooser.choice(gated_families(min(size, 3)))), ("want", [chooser.randint(-3, 3) for _ in range(size)])]
    return chooser.choice(words)


def do(desk, word):
    return getattr(desk, word[0])(*word[1:])


def busy_desk(family, seed, many=12):
    """A desk on which deeds were done, those that raise an error left out."""
    chooser, desk = random.Random(seed), Desk(family)
    for _ in range(many):
        if desk.family_now.size < 7:
            try:
                do(desk, random_word(desk, chooser))
            except LotsError:
                pass
    return desk


class DeskTest(Case):
    def test_point_141_how_a_desk_begins(self):
        for family in [*gated_families(2), *gated_families(3), Family.of(1, ()), Family.everything(10)]:
            desk = Desk(family)
            self.assertEqual(desk.family_now, family)
            self.assertIs(type(desk.wish_now), Wish)
            self.assert_same([desk.wish_now.numbers, desk.many, desk.deeds()], [(0,) * family.size, 0, ()])
            self.assertEqual([name for name in vars(desk) if not name.startswith("_")], [])
        for family in [*small_families(), *chosen_families((4, 5))]:
            if not is_gated(family):
                self.assert_error(NotGated(*find_break(family)), Desk, family)

    def test_each_deed_is_a_method_of_the_desk(self):
        for name in NAMES + ("back", "deeds", "best", "criticals", "part_lots", "report"):
            self.assertTrue(callable(vars(Desk)[name]))
        for name in ("family_now", "wish_now", "many"):
            self.assertIsInstance(vars(Desk)[name], property)


class DeedsTest(Case):
    def check_deed(self, family, word, expected, numbers, noted=None):
        desk = start(family)
        before = desk.deeds()
        found = do(desk, word)
        self.assertIs(type(found), Family)
        self.assertEqual([found, desk.family_now], [expected, expected])
        self.assertIs(type(desk.wish_now), Wish)
        self.assert_same(desk.wish_now.numbers, tuple(numbers))
        self.assert_same(told(desk.deeds()), told([*before, noted or word]))
        self.assert_same(desk.many, 2)
        self.assertEqual(desk.back(), family)
        self.assert_same((desk.wish_now.numbers, desk.deeds()), (tuple(range(1, family.size + 1)), before))

    def test_point_142_deeds_with_a_lot_or_a_thing(self):
        for family in gated_sample():
            numbers = list(range(1, family.size + 1))
            for lot in every_lot(family.size)[::5]:
                self.check_deed(family, ("turn", list(lot)[::-1]), family ^ lot, numbers, ("turn", lot))
            self.check_deed(family, ("widen",), within(family, 1), numbers)
            for x in range(family.size + 1):
                self.check_deed(family, ("grow", x), grown(family, x), numbers[:x] + [0] + numbers[x:])
            for x in range(family.size):
                if family.size == 1:
                    continue
                less = numbers[:x] + numbers[x + 1:]
                self.check_deed(family, ("drop", x), forget(family, x), less)
                if x not in family.fixed_out():
                    self.check_deed(family, ("hold", x), in_of(family, x), less)
                if x not in family.fixed_in():
                    self.check_deed(family, ("leave", x), out_of(family, x), less)
                for y in range(x):
                    self.check_deed(family, ("merge_two", x, y), merge(family, x, y), less)
                    self.check_deed(family, ("merge_two", y, x), merge(family, x, y), less)

    def test_point_142_deeds_with_a_family(self):
        for family in [*gated_families(2), *gated_families(3)[::4]]:
            numbers = list(range(1, family.size + 1))
            for other in gated_families(family.size)[::7]:
                self.check_deed(family, ("join_with", other), join(family, other), numbers)
            if is_even(family):
                for link in family.loose():
                    for other, q in ((ONE, 0), (PARITY, 2), (Family.sized(4, 2, 2), 1)):
                        glued = Glue(family, link, other, q).family
                        less = numbers[:link] + numbers[link + 1:] + [0] * (other.size - 1)
                        self.check_deed(family, ("glue_in", link, other, q), glued, less)

    def test_point_142_want(self):
        family = Family.of(3, (0,), (1,), (2,))
        for numbers in ((5, 3, 9), [5, -3, 10 ** 30], Wish(0, 1, 2)):
            desk = Desk(family)
            self.assertEqual(desk.want(numbers), family)
            self.assert_same(desk.wish_now.numbers, tuple(numbers))
            self.assert_same(desk.deeds(), (("want", tuple(numbers)),))

    def test_point_1_a_desk_copies_what_it_notes(self):
        desk, lot, numbers = Desk(Family.everything(3)), [2, 0], [1, 2, 3]
        desk.turn(lot)
        desk.want(numbers)
        lot.append(1)
        numbers.append(4)
        self.assert_same(desk.deeds(), (("turn", (0, 2)), ("want", (1, 2, 3))))
        desk = Desk(PARITY)
        desk.join_with(PARITY)
        self.assertIs(desk.deeds()[0][1], PARITY)

    def test_sizes_1_and_10(self):
        desk = Desk(Family.everything(1))
        for x in range(1, 10):
            desk.grow(x // 2)
        self.assertEqual(desk.family_now, Family.everything(10))
        self.assert_same((desk.many, len(desk.wish_now)), (9, 10))
        self.assert_error(TooMany("things"), desk.grow, 0)
        while desk.many:
            desk.back()
        self.assertEqual(desk.family_now, Family.everything(1))

    def test_many_deeds(self):
        desk = Desk(Family.of(2, (0,), (1,)))
        for place in range(200):
            desk.turn((place % 2,))
        self.assert_same((desk.many, desk.deeds()[-1]), (200, ("turn", (1,))))
        self.assertEqual(desk.family_now, Family.of(2, (0,), (1,)))
        for _ in range(200):
            desk.back()
        self.assert_same((desk.many, desk.deeds()), (0, ()))


class ErrorsTest(Case):
    def check_error(self, error, desk, *word):
        before = state(desk)
        self.assert_error(error, getattr(desk, word[0]), *word[1:])
        self.assertEqual(state(desk), before)

    def test_deeds_that_raise_change_nothing(self):
        desk = start(Family.of(3, (0,), (1,)))
        for word, error in (
            (("turn", None), BadLot(-1)), (("turn", (0, 3)), BadLot(1)), (("turn", [1, 1]), BadLot(1)),
            (("hold", 3), BadThing(3)), (("hold", 2), NoLot()), (("leave", True), BadThing(True)), (("leave", -1), BadThing(-1)),
            (("drop", None), BadThing(None)), (("merge_two", 3, None), BadThing(3)), (("merge_two", 0, 3), BadThing(3)),
            (("merge_two", 1, 1), BadThing(1)), (("grow", 4), BadThing(4)), (("grow", False), BadThing(False)),
            (("join_with", Family.everything(2)), OtherSize(2)), (("join_with", BROKEN), OtherSize(4)),
            (("join_with", Family.of(3, (), (0, 1, 2))), NotGated((), (0, 1, 2), 0)),
            (("glue_in", 2, PARITY, 0), BadThing(2)), (("glue_in", 3, PARITY, 0), BadThing(3)),
            (("glue_in", 0, PARITY, 3), BadThing(3)), (("glue_in", 0, BROKEN, 0), NotGated(*find_break(BROKEN))),
            (("glue_in", 0, UNEVEN, 0), NotEven((), (0,))), (("glue_in", 0, Family.everything(10), 0), TooMany("things")),
            (("want", None), BadWish(-1)), (("want", (1, 2)), BadWish(-2)), (("want", (1, 2, None)), BadWish(2)),
        ):
            self.check_error(error, desk, *word)
        self.check_error(NoLot(), start(Family.of(2, (0, 1))), "leave", 1)
        self.check_error(NotEven((), (0,)), start(UNEVEN), "glue_in", 0, PARITY, 0)
        for name in ("hold", "leave", "drop"):
            self.check_error(BadNumber("size"), start(Family.everything(1)), name, 0)
            self.check_error(BadThing(1), start(Family.everything(1)), name, 1)
        self.check_error(BadThing(0), start(Family.everything(1)), "merge_two", 0, 0)

    def test_nothing_to_take_back(self):
        desk = Desk(PARITY)
        for _ in range(2):
            with self.assertRaises(NotHanded) as caught:
                desk.back()
            self.assertEqual(vars(caught.exception), {})
            self.assertIs(type(caught.exception), NotHanded)
            self.assertIs(type(caught.exception.__cause__), EmptyDesk)
            self.assert_same((desk.many, desk.family_now.lots), (0, PARITY.lots))
            desk.widen()
            desk.back()


class BackTest(Case):
    def test_point_143_back_to_the_beginning(self):
        for seed, family in enumerate([*gated_families(2), *gated_families(3)[::6]]):
            chooser, desk = random.Random(seed), Desk(family)
            states = [state(desk)]
            for _ in range(15):
                if desk.family_now.size < 7:
                    try:
                        do(desk, random_word(desk, chooser))
                        states.append(state(desk))
                    except LotsError:
                        self.assertEqual(state(desk), states[-1])
                if chooser.random() < 0.3 and desk.many:
                    states.pop()
                    found = desk.back()
                    self.assertEqual(found, desk.family_now)
                    self.assertEqual(state(desk), states[-1])
            while desk.many:
                states.pop()
                desk.back()
                self.assertEqual(state(desk), states[-1])
            self.assertEqual(len(states), 1)

    def test_point_144_deeds_done_again_on_a_new_desk(self):
        seen = set()
        for seed, family in enumerate([*gated_families(2), *gated_families(3)[::3]]):
            desk = busy_desk(family, seed)
            again = Desk(family)
            for word in desk.deeds():
                do(again, word)
                seen.add(word[0])
            self.assertEqual(again.family_now, desk.family_now)
            self.assertEqual(again.wish_now, desk.wish_now)
            self.assertEqual(again.deeds(), desk.deeds())
        self.assertEqual(seen, set(NAMES))


class KeptTest(Case):
    def test_point_145_what_deeds_keep(self):
        seen = set()
        for seed, family in enumerate([*gated_families(2), *gated_families(3), *gated_families(4)[::150]]):
            chooser, desk = random.Random(seed), Desk(family)
            for _ in range(5):
                before, word = desk.family_now, random_word(desk, chooser)
                if before.size > 5:
                    break
                try:
                    after = do(desk, word)
                except LotsError:
                    continue
                self.check_kept(before, word, after, seen)
        self.assertEqual(len(seen), 6 + 4 + 8 + 4)

    def check_kept(self, before, word, after, seen):
        name = word[0]
        self.assertTrue(is_gated(after))
        other = word[1] if name == "join_with" else before
        even = ("turn", "hold", "leave", "merge_two", "glue_in", "join_with")
        if is_even(before) and name in even and is_even(other):
            self.assertTrue(is_even(after))
        if is_full(before) and name in ("hold", "leave", "drop", "grow"):
            self.assertTrue(is_full(after))
        both = ("turn", "hold", "leave", "drop", "merge_two", "grow", "widen", "join_with")
        if works_both_ways(before) and name in both and works_both_ways(other):
            self.assertTrue(works_both_ways(after))
        if name in ("hold", "leave", "drop"):
            x = word[1]
            marks = {mark[:2]: mark[2:] for mark in bonds(before)}
            for y, z, rivals, mates in bonds(after):
                old = marks[(y + (y >= x), z + (z >= x))]
                self.assertTrue(old[0] >= rivals and old[1] >= mates)
        if name == "grow":
            self.assertFalse([mark for mark in bonds(after) if word[1] in mark[:2]])
        for group, names in (("even", even), ("full", ("hold", "leave", "drop", "grow")), ("both", both)):
            if name in names:
                seen.add((group, name))
        if name in ("hold", "leave", "drop", "grow"):
            seen.add(("bonds", name))


class ToldTest(Case):
    def test_what_a_desk_tells_of_what_it_holds(self):
        for seed, family in enumerate([*gated_families(2), *gated_families(3)[::2], *gated_families(4)[::300]]):
            desk = busy_desk(family, seed, 5)
            now, wish = desk.family_now, desk.wish_now
            self.assert_same(desk.best(), book(now, wish))
            self.assert_same(desk.criticals(), tuple(critical(now, wish, x) for x in range(now.size)))
            self.assert_same(desk.part_lots(), finest(now))
            self.assert_same(desk.report(), {
                "size": now.size, "lots": len(now), "even": is_even(now), "both": works_both_ways(now),
                "full": is_full(now), "depth": deepest(now), "parts": len(finest(now)), "bonds": len(bonds(now)),
            })

    def test_reports(self):
        self.assert_same(Desk(Family.of(1, (0,))).report(), {
            "size": 1, "lots": 1, "even": True, "both": True, "full": True, "depth": 1, "parts": 1, "bonds": 0,
        })
        self.assert_same(Desk(PARITY).report(), {
            "size": 3, "lots": 4, "even": True, "both": True, "full": False, "depth": 1, "parts": 1, "bonds": 3,
        })
        self.assert_same(Desk(Family.everything(10)).report(), {
            "size": 10, "lots": 1024, "even": False, "both": True, "full": True, "depth": 0, "parts": 10, "bonds": 0,
        })
        ones = Desk(Family.of(3, (), (0,), (1,), (2,), (0, 1, 2)))
        self.assert_same(ones.report()["both"], False)
        self.assert_new(ones.report)

    def test_criticals_of_fixed_things(self):
        desk = start(Family.of(3, (0, 2), (1, 2)), (4, 1, 7))
        self.assert_same([desk.criticals(), desk.best()], [(1, 4, None), (0, 2)])
