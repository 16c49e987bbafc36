import random

from tests.helpers import Case, gated_families
from tests.test_desks import busy_desk, do, random_word, start, state
from tests.test_glue import BROKEN, ONE, PARITY
from turnlots.breaks import find_break
from turnlots.desks import Desk
from turnlots.errors import BadLot, BadThing, BadWish, BadWord, LotsError, NoLot, NotGated, NotHanded
from turnlots.families import Family
from turnlots.trials import Trial, tried

GOOD = [
    ("turn", [1, 0]), ["grow", 3], ("want", (1, 2, 3, 4)), ("hold", 3), ("widen",), ("leave", 0), ["drop", 0],
    ("grow", 0), ("merge_two", 1, 0), ("join_with", Family.of(1, ())), ("grow", 1), ("turn", (0,)),
]


class TriedTest(Case):
    def test_point_146_what_the_deeds_lead_to(self):
        for seed, family in enumerate([*gated_families(2), *gated_families(3)[::4]]):
            model = busy_desk(family, seed)
            desk = start(family)
            desk.widen()
            desk.back()
            for words in (model.deeds(), list(model.deeds())):
                # the words go on from the family with which the model began
                before = state(desk)
                found = tried(desk, words)
                self.assertIs(type(found), Family)
                self.assertEqual(found, model.family_now)
                self.assertEqual(state(desk), before)
                self.assertEqual(Trial(desk).try_all(words), found)
                self.assertEqual(state(desk), before)

    def test_each_deed_is_tried(self):
        desk, model = Desk(PARITY), Desk(PARITY)
        for many in range(len(GOOD) + 1):
            before = state(desk)
            self.assertEqual(tried(desk, GOOD[:many]), model.family_now)
            self.assertEqual(state(desk), before)
            if many < len(GOOD):
                do(model, GOOD[many])
        glued = tried(desk, [("glue_in", 1, ONE, 0), ("glue_in", 0, PARITY, 2)])
        model = Desk(PARITY)
        model.glue_in(1, ONE, 0)
        self.assertEqual(glued, model.glue_in(0, PARITY, 2))

    def test_no_words(self):
        desk = start(PARITY)
        desk.turn((0,))
        for words in ((), []):
            self.assertEqual(tried(desk, words), PARITY ^ (0,))
            self.assertEqual(Trial(desk).try_all(words), PARITY ^ (0,))
        self.assert_same(desk.many, 2)

    def test_point_146_deeds_that_raise(self):
        desk = start(Family.of(3, (0,), (1,)))
        desk.turn((2,))
        before = state(desk)
        for words, error in (
            ([("turn", None)], BadLot(-1)), ([("widen",), ("hold", 5)], BadThing(5)), ([("turn", [2]), ("hold", 2)], NoLot()),
            ([("widen",), ("want", (1, 2)), ("turn", None)], BadWish(-2)), ([("grow", 0), ("grow", 5)], BadThing(5)),
            ([("glue_in", 0, PARITY, 0), ("glue_in", 0, BROKEN, 0)], NotGated(*find_break(BROKEN))),
        ):
            self.assert_error(error, tried, desk, words)
            self.assertEqual(state(desk), before)
            self.assert_error(error, Trial(desk).try_all, words)
            self.assertEqual(state(desk), before)

    def test_point_146_all_words_are_looked_at_first(self):
        desk = start(PARITY)
        before = state(desk)
        for words in (None, 3, "widen", {"widen": 1}):
            self.assert_error(BadWord(-1), tried, desk, words)
        for words, place in (
            ([None], 0), (["widen"], 0), ([()], 0), ([("fly",)], 0), ([("widen",), ("fly",)], 1), ([("widen", 1)], 0),
            ([("turn",)], 0), ([("turn", (0,), 1)], 0), ([("hold",)], 0), ([("merge_two", 1)], 0),
            ([("merge_two", 0, 1, 2)], 0), ([("glue_in", 0, PARITY)], 0), ([("want",)], 0), ([("grow", 0, 0)], 0),
            ([(1, 2)], 0), ([(None,)], 0), ([([],)], 0), ([({}, 1)], 0), ([("back",)], 0), ([("deeds",)], 0),
            ([("family_now",)], 0), ([(["turn"], (0,))], 0), ([("Turn", (0,))], 0), ([{"widen": 1}], 0),
            # the deed at place 0 would raise another error
            ([("hold", 99), ("turn", (0,)), ("leave", 1, 2)], 2),
            ([("drop",), ("fly",)], 0), ([("join_with",)], 0), ([("leave",)], 0), ([("drop", 1, 2)], 0),
        ):
            self.assert_error(BadWord(place), tried, desk, words)
            self.assert_error(BadWord(place), Trial(desk).try_all, words)
        self.assertEqual(state(desk), before)


class TrialTest(Case):
    def test_a_trial_before_and_in_a_block(self):
        desk = start(PARITY)
        trial = Trial(desk)
        self.assertIs(trial.desk, desk)
        self.assert_same(trial.mark, 1)
        self.assertEqual([name for name in vars(trial) if not name.startswith("_")], ["desk", "mark"])
        desk.widen()
        self.assert_same(trial.mark, 1)
        before = state(desk)
        with trial as held:
            self.assertIs(held, trial)
            self.assert_same(trial.mark, 2)
            desk.turn((0,))
            desk.want((7, 8, 9))
            self.assert_same((desk.many, trial.mark), (4, 2))
        self.assertEqual(state(desk), before)
        self.assert_same(trial.mark, 2)
        desk.back()
        self.assert_same(trial.mark, 2)
        with trial:
            self.assert_same(trial.mark, 1)
        self.assert_same((trial.mark, desk.many), (1, 1))

    def test_point_146_a_block_that_is_left_by_an_error(self):
        desk = start(PARITY)
        before = state(desk)
        with self.assertRaises(BadThing):
            with Trial(desk):
                desk.turn((0,))
                desk.hold(7)
        self.assertEqual(state(desk), before)
        with self.assertRaises(ZeroDivisionError):
            with Trial(desk):
                desk.drop(0)
                desk.back()
                desk.back()
                raise ZeroDivisionError
        self.assertEqual(state(desk), before)

    def test_point_146_a_block_that_is_left_early(self):
        desk = start(PARITY)
        before = state(desk)

        def leave_early():
            for _ in range(2):
                with Trial(desk):
                    desk.widen()
                    continue
            for _ in range(2):
                with Trial(desk):
                    desk.hold(0)
                    break
            with Trial(desk):
                return desk.turn((1,))

        self.assertEqual(leave_early(), PARITY ^ (1,))
        self.assertEqual(state(desk), before)

    def test_point_146_earlier_deeds_taken_back_in_a_block(self):
        desk = start(PARITY)
        desk.turn((0,))
        desk.grow(1)
        before = state(desk)
        with Trial(desk) as trial:
            for _ in range(3):
                desk.back()
            with self.assertRaises(NotHanded):
                desk.back()
            desk.widen()
            self.assert_same((desk.many, trial.mark), (1, 3))
        self.assertEqual(state(desk), before)
        self.assertEqual(desk.back(), PARITY ^ (0,))
        self.assertEqual([desk.back(), desk.back()], [PARITY, PARITY])

    def test_blocks_in_blocks(self):
        desk = start(PARITY)
        before = state(desk)
        with Trial(desk) as outer:
            desk.turn((0,))
            within = state(desk)
            with Trial(desk) as inner:
                desk.back()
                desk.back()
                self.assertEqual(inner.try_all([("widen",), ("hold", 0)]), tried(desk, [("widen",), ("hold", 0)]))
            self.assertEqual(state(desk), within)
            self.assert_same((outer.mark, inner.mark), (1, 2))
        self.assertEqual(state(desk), before)

    def test_an_empty_block(self):
        desk = Desk(PARITY)
        with Trial(desk) as trial:
            pass
        self.assert_same((desk.many, trial.mark), (0, 0))

    def test_any_deeds_in_a_block(self):
        for seed, family in enumerate([*gated_families(2), *gated_families(3)[::5]]):
            chooser, desk = random.Random(seed), busy_desk(family, seed, 4)
            before = state(desk)
            with Trial(desk):
                for _ in range(8):
                    try:
                        if chooser.random() < 0.4:
                            desk.back()
                        elif desk.family_now.size < 7:
                            do(desk, random_word(desk, chooser))
                    except LotsError:
                        pass
            self.assertEqual(state(desk), before)
