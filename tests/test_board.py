"""[22]: board.py."""

import inspect
import random
import unittest
from collections import Counter

import lab
import model
import walks
from fourlooks.bands import plain_band, whole
from fourlooks.board import Board
from fourlooks.deeds import can_do, done
from fourlooks.effects import links_changed, whole_change
from fourlooks.errors import NothingDone
from fourlooks.links import link_table
from fourlooks.plans import behind_plan, is_plan
from fourlooks.rooms import round_plan
from fourlooks.yards import table

FAR = 10 ** 6
TWO = (lab.BAND_LOW, lab.BAND_HIGH)
HOP, BACK, OUT, CUT = ("hop", 1, 0, -3), ("back", 1, 0), ("out", 0, 4, -3), ("cut", 1, 3)
METHODS = {"__init__": ["self", "stand"], "do": ["self", "deed"], "follow": ["self", "plan"], "undo": ["self"],
           "redo": ["self"], "first": ["self"], "stand": ["self"], "plan": ["self"], "could": ["self", "deed"],
           "table_now": ["self"], "hops_done": ["self"], "cuts_done": ["self"], "twin": ["self"], "__eq__": ["self", "other"]}


def shown(desk):
    """All that a Board tells without an argument."""
    return (desk.first(), desk.stand(), desk.plan(), desk.table_now(), desk.hops_done(), desk.cuts_done())


def undone_all(desk):
    """What a twin tells, deed by deed taken back, then done again."""
    own, found = desk.twin(), []
    for name in ("redo", "undo", "redo"):
        while walks.told_error(getattr(own.twin(), name)) is None:
            found.append((getattr(own, name)(), shown(own)))
    return found


def whole_of(desk):
    return shown(desk), undone_all(desk)


class Model:
    """A Board as the tests tell it: the STAND now is walked anew from the first one each time."""

    def __init__(self, stand):
        self.first, self.past, self.future = stand, [], []

    def plan(self):
        return tuple(deed for _, deeds in self.past for deed in deeds)

    def shown(self):
        plan = self.plan()
        stand = walks.walked(self.first, plan)[-1]
        cuts = tuple(sum(deed[2] for deed in plan if deed[:2] == ("cut", number)) for number in range(len(stand)))
        links = link_table(walks.cords_of(stand))
        return (self.first, stand, plan, (tuple(whole(band) for band in stand), links),
                sum(deed[0] in ("hop", "back") for deed in plan), cuts)


class Form(unittest.TestCase):
    def test_methods_stand_in_the_class_with_their_arguments(self):
        for name, names in METHODS.items():
            self.assertIn(name, vars(Board))
            told = inspect.signature(vars(Board)[name]).parameters.values()
            self.assertEqual([one.name for one in told], names)
            self.assertTrue(all(one.default is one.empty for one in told))
        self.assertEqual((Board.__bases__, Board.__module__), ((object,), "fourlooks.board"))

    def test_arguments_by_name(self):
        desk = Board(stand=TWO)
        self.assertIsNone(desk.do(deed=HOP))
        self.assertIsNone(desk.follow(plan=(CUT,)))
        self.assertIs(desk.could(deed=BACK), True)
        self.assertEqual(desk.plan(), (HOP, CUT))


class Deeds(unittest.TestCase):
    def test_beside_a_board_walked_anew(self):
        rng = random.Random(26)
        words = Counter()
        for stand, plan, _ in walks.plans()[::2]:
            desk, own = Board(stand), Model(stand)
            left = list(plan)
            while left or rng.random() < 0.8:
                word = rng.choice(("do", "do", "follow", "undo", "redo"))
                words[word, self.step(rng, desk, own, word, left)] += 1
                self.assertEqual(shown(desk), own.shown())
            while own.past:
                self.step(rng, desk, own, "undo", left)
                self.assertEqual(desk.plan(), own.plan())
            self.assertEqual(desk.stand(), stand)
        self.assertEqual(len(words), 8)

    def step(self, rng, desk, own, word, left):
        """Does one deed at both; tells whether something was done."""
        if word == "undo" or word == "redo":
            here, there = (own.past, own.future) if word == "undo" else (own.future, own.past)
            if not here:
                self.assertEqual(walks.told_error(getattr(desk, word)), ("NothingDone",))
                return False
            there.append(here.pop())
            self.assertEqual(getattr(desk, word)(), there[-1][0])
            return True
        many = 1 if word == "do" else rng.randint(0, 3)
        deeds = tuple(left[:many])
        del left[:many]
        told = deeds[0] if word == "do" and deeds else deeds if word == "follow" else ("bend", 9, 0)
        broken = walks.broken_at(desk.stand(), deeds if word == "follow" else (told,))
        if broken is not None:
            self.assertIsNotNone(walks.told_error(getattr(desk, word), told))
            return False
        self.assertIsNone(getattr(desk, word)(told))
        own.past.append((word, deeds))
        own.future.clear()
        return True

    def test_a_deed_that_raises_leaves_all_as_it_was(self):
        desk = Board(TWO)
        desk.do(HOP)
        desk.follow((OUT, CUT))
        desk.undo()
        kept = whole_of(desk)
        for deed, error in ((("bend", 2, 0), ("NoBand", 2)), (("bend", 0, 7), ("NoPlace", 8)), (("bend", 0, 0), ("Unfit",)),
                            (("hop", 0, 0, 4), ("Unfit",)), (None, ("Unfit",)), ((), ("Unfit",)), (HOP, ("Unfit",)),
                            (("out", 0, 1, 2), ("Unfit",))):
            self.assertEqual(walks.told_error(desk.do, deed), error)
            self.assertEqual(whole_of(desk), kept)
            self.assertEqual(walks.told_error(desk.follow, (OUT, CUT, deed))[0],
                             "Broken" if isinstance(deed, tuple) and deed and deed[-1] != 4 else "Unfit")
            self.assertEqual(whole_of(desk), kept)
        self.assertEqual(desk.redo(), "follow")
        self.assertEqual(walks.told_error(desk.redo), ("NothingDone",))

    def test_do_raises_what_done_raises(self):
        for stand in model.stands()[::8]:
            desk = Board(stand)
            for deed in model.strand_deeds(walks.cords_of(stand))[::5] + [("cut", -1, 0), ("slide", 0, FAR, 0), ("cut",)]:
                error = walks.told_error(done, stand, deed)
                if error is not None:
                    self.assertEqual(walks.told_error(desk.do, deed), error)
            self.assertEqual(shown(desk)[:3], (stand, stand, ()))

    def test_follow_raises_what_behind_plan_raises(self):
        desk = Board(TWO)
        for plan in ((HOP, HOP), (("bend", 0, 0),), (OUT, CUT, ("in", 9, 0)), (("cut", 0),), None, HOP, "", (HOP, ())):
            error = walks.told_error(behind_plan, TWO, plan)
            self.assertIsNotNone(error)
            self.assertEqual(walks.told_error(desk.follow, plan), error)
        self.assertEqual(shown(desk), shown(Board(TWO)))

    def test_a_plan_is_followed_as_one_deed(self):
        desk = Board(TWO)
        desk.follow((HOP, OUT, CUT))
        self.assertEqual(desk.plan(), (HOP, OUT, CUT))
        self.assertEqual(desk.stand(), behind_plan(TWO, (HOP, OUT, CUT)))
        self.assertEqual(desk.undo(), "follow")
        self.assertEqual((desk.stand(), desk.plan()), (TWO, ()))
        self.assertEqual(walks.told_error(desk.undo), ("NothingDone",))
        self.assertEqual(desk.redo(), "follow")
        self.assertEqual(desk.plan(), (HOP, OUT, CUT))

    def test_a_plan_without_deeds_is_a_deed(self):
        desk = Board(TWO)
        desk.do(CUT)
        desk.undo()
        self.assertIsNone(desk.follow(()))
        self.assertEqual((desk.stand(), desk.plan()), (TWO, ()))
        self.assertEqual(walks.told_error(desk.redo), ("NothingDone",))
        self.assertEqual(desk.undo(), "follow")
        self.assertEqual(walks.told_error(desk.undo), ("NothingDone",))

    def test_undo_and_redo_of_nothing(self):
        desk = Board(TWO)
        for name in ("undo", "redo"):
            with self.assertRaises(NothingDone) as caught:
                getattr(desk, name)()
            self.assertEqual(vars(caught.exception), {})
        desk.do(CUT)
        self.assertEqual(walks.told_error(desk.redo), ("NothingDone",))
        self.assertEqual((desk.undo(), desk.redo()), ("do", "do"))
        self.assertEqual(walks.told_error(desk.redo), ("NothingDone",))

    def test_the_last_that_is_taken_back_is_done_again_first(self):
        desk = Board(TWO)
        desk.do(HOP)
        desk.follow((OUT,))
        desk.do(CUT)
        self.assertEqual([desk.undo() for _ in range(3)], ["do", "follow", "do"])
        self.assertEqual(walks.told_error(desk.undo), ("NothingDone",))
        told = []
        for _ in range(3):
            told.append((desk.redo(), desk.plan()))
        self.assertEqual(told, [("do", (HOP,)), ("follow", (HOP, OUT)), ("do", (HOP, OUT, CUT))])

    def test_behind_another_deed_nothing_is_done_again(self):
        for name, told in (("do", OUT), ("follow", (OUT,))):
            desk = Board(TWO)
            desk.do(HOP)
            desk.do(CUT)
            desk.undo()
            getattr(desk, name)(told)
            self.assertEqual(walks.told_error(desk.redo), ("NothingDone",))
            self.assertEqual(desk.plan(), (HOP, OUT))
            self.assertEqual((desk.undo(), desk.undo(), desk.redo(), desk.redo()), (name, "do", "do", name))

    def test_looks_and_twins_between_are_no_deeds(self):
        desk = Board(TWO)
        desk.do(HOP)
        desk.undo()
        shown(desk), desk.could(HOP), desk.twin(), desk == desk.twin()
        desk.twin().do(CUT)
        self.assertEqual(desk.redo(), "do")

    def test_300_deeds(self):
        stand = (lab.FLAT, plain_band(lab.moved(lab.STAIRS, (0, 0, 30)), 2))
        desk = Board(stand)
        for _ in range(60):
            for deed in (("out", 0, 0, 3), ("slide", 0, 1, FAR), ("cut", 1, -FAR), ("in", 0, 0), ("begin", 0, 1)):
                desk.do(deed)
        self.assertEqual(len(desk.plan()), 300)
        self.assertEqual(desk.cuts_done(), (0, -60 * FAR))
        self.assertEqual([desk.undo() for _ in range(300)], ["do"] * 300)
        self.assertEqual(desk.stand(), stand)
        way = round_plan(stand, 0, (0, -3, 1)) * 13
        desk.follow(way)
        self.assertEqual((desk.hops_done(), desk.plan()), (13, way))


class Looks(unittest.TestCase):
    def test_what_stands_behind_the_plan(self):
        for stand, plan, stands in walks.plans()[::2]:
            desk = Board(stand)
            for at, deed in enumerate(plan):
                desk.do(deed)
                self.assertEqual((desk.first(), desk.stand(), desk.plan()), (stand, stands[at + 1], plan[:at + 1]))
                self.assertEqual(desk.table_now(), table(stands[at + 1]))
            self.assertIs(is_plan(desk.first(), desk.plan()), True)

    def test_could_tells_what_can_do_tells(self):
        for stand, plan, stands in walks.plans()[::8]:
            desk = Board(stand)
            desk.follow(plan)
            for deed in model.strand_deeds(walks.cords_of(stands[-1]))[::9] + [("cut", 9, 0), ("cut", 0, 1), ("begin", 0, 3)]:
                self.assertIs(desk.could(deed), can_do(stands[-1], deed))
            for bad in (None, (), ("bend", 0), ("hop", 0, 0, 4), "bend"):
                self.assertEqual(walks.told_error(desk.could, bad), ("Unfit",))
            self.assertEqual(desk.plan(), plan)

    def test_hops_and_backs_done(self):
        desk = Board(TWO)
        told = []
        for deed in (HOP, OUT, BACK, HOP, CUT):
            desk.do(deed)
            told.append(desk.hops_done())
        self.assertEqual(told, [1, 1, 2, 3, 3])
        for many in (3, 2, 1, 1, 0):
            desk.undo()
            self.assertEqual(desk.hops_done(), many)

    def test_cuts_done_band_by_band(self):
        desk = Board(TWO)
        for deed in (("cut", 0, 4), ("cut", 1, -3), ("slide", 0, 0, 9), ("cut", 0, -1), ("cut", 1, 0), HOP):
            desk.do(deed)
        self.assertEqual(desk.cuts_done(), (3, -3))
        self.assertEqual([whole(band) for band in desk.stand()], [3, -3])
        desk.follow((("cut", 0, -3), ("cut", 0, FAR)))
        self.assertEqual(desk.cuts_done(), (FAR, -3))
        desk.undo()
        self.assertEqual((desk.cuts_done(), Board(TWO + (plain_band(lab.moved(lab.COIL, (0, 0, 30)), 1),)).cuts_done()),
                         ((3, -3), (0, 0, 0)))

    def test_the_table_along_rows_of_deeds(self):
        turned = Counter()
        for stand, plan, _ in walks.plans():
            desk = Board(stand)
            for deed in plan:
                ahead, wholes, links = desk.table_now(), list(desk.table_now()[0]), [list(row) for row in desk.table_now()[1]]
                number = deed[1]
                grown, changed = whole_change(desk.stand(), deed), links_changed(desk.stand(), deed)
                desk.do(deed)
                if deed[0] not in ("hop", "back", "cut"):
                    self.assertEqual(desk.table_now(), ahead)
                    continue
                wholes[number] += grown
                for other, more in changed:
                    links[number][other] += more
                    links[other][number] += more
                self.assertEqual(desk.table_now(), (tuple(wholes), tuple(map(tuple, links))))
                if deed[0] != "cut":
                    # One S by 2, or one LINK by 1.
                    self.assertIn((abs(grown), [abs(more) for _, more in changed]), ((2, []), (0, [1])))
                    turned[abs(grown)] += 1
            if desk.hops_done() == 0 and not any(deed[0] == "cut" for deed in plan):
                self.assertEqual(desk.table_now(), table(desk.first()))
        self.assertEqual(set(turned), {0, 2})


class Twins(unittest.TestCase):
    def board(self):
        desk = Board(TWO)
        desk.do(HOP)
        desk.follow((OUT, CUT))
        desk.do(("begin", 0, 3))
        desk.undo()
        return desk

    def test_a_twin_holds_the_same(self):
        desk = self.board()
        twin = desk.twin()
        self.assertIs(type(twin), Board)
        self.assertIsNot(twin, desk)
        self.assertEqual(whole_of(twin), whole_of(desk))
        self.assertEqual((twin.redo(), twin.undo(), twin.undo(), twin.undo()), ("do", "do", "follow", "do"))
        self.assertEqual((twin.redo(), twin.redo(), twin.redo()), ("do", "follow", "do"))

    def test_they_go_their_own_ways(self):
        for name, more in (("do", (CUT,)), ("follow", ((CUT,),)), ("undo", ()), ("redo", ())):
            desk = self.board()
            twin, kept = desk.twin(), whole_of(desk)
            getattr(twin, name)(*more)
            self.assertEqual(whole_of(desk), kept)
            self.assertFalse(desk == twin)
            twin = desk.twin()
            getattr(desk, name)(*more)
            self.assertEqual(whole_of(twin), kept)
            self.assertTrue(desk != twin)

    def test_a_twin_of_a_new_board(self):
        twin = Board(TWO).twin()
        self.assertEqual(shown(twin), shown(Board(TWO)))
        for name in ("undo", "redo"):
            self.assertEqual(walks.told_error(getattr(twin, name)), ("NothingDone",))


class Equal(unittest.TestCase):
    def test_equal_first_and_equal_plan(self):
        one, two = Board(TWO), Board(lab.as_lists(TWO))
        self.assertIs(one == two, True)
        self.assertIs(one != two, False)
        one.do(CUT)
        self.assertIs(one == two, False)
        self.assertIs(one != two, True)
        # One by one, or as one deed: the plan is the same.
        two.follow((CUT,))
        self.assertIs(one == two, True)
        two.do(OUT)
        two.undo()
        self.assertIs(one == two, True)

    def test_another_first_or_another_plan(self):
        one, two = Board(TWO), Board(behind_plan(TWO, (CUT,)))
        one.do(CUT)
        self.assertEqual(one.stand(), two.stand())
        self.assertIs(one == two, False)
        three = Board(TWO)
        three.follow((CUT, ("slide", 0, 0, 0)))
        self.assertEqual(one.stand(), three.stand())
        self.assertIs(one == three, False)
        self.assertIs(Board(TWO) == Board(TWO[:1]), False)
        self.assertIs(Board(TWO) == Board((TWO[1], TWO[0])), False)

    def test_other_things(self):
        class Like:
            def first(self):
                return TWO

            def plan(self):
                return ()

        for other in (None, 0, TWO, (), "", True, Like(), Board, [TWO], Board(TWO).plan(), object()):
            self.assertIs(Board(TWO) == other, False)
            self.assertIs(other == Board(TWO), False)
            self.assertIs(Board(TWO) != other, True)

    def test_comparing_changes_nothing(self):
        desk = Board(TWO)
        desk.do(HOP)
        desk.undo()
        desk == Board(TWO)
        self.assertEqual(desk.redo(), "do")


class Handed(unittest.TestCase):
    def test_what_is_no_stand_is_unfit(self):
        for bad in lab.NO_STANDS[::2]:
            self.assertEqual(walks.told_error(Board, bad), ("Unfit",))

    def test_lists_in_the_place_of_tuples(self):
        for own in lab.listed(TWO):
            self.assertEqual(shown(Board(own)), shown(Board(TWO)))
        for deed in (HOP, OUT, CUT):
            desk, own = Board(TWO), Board(TWO)
            desk.do(deed)
            own.do(list(deed))
            self.assertEqual(repr(shown(own)), repr(shown(desk)))
        for plan in lab.listed((HOP, OUT, CUT)):
            own = Board(TWO)
            own.follow(plan)
            self.assertEqual(own.plan(), (HOP, OUT, CUT))
            self.assertIs(own.could(list(BACK)), True)

    def test_a_board_copies_what_it_is_given(self):
        stand, deed, plan = lab.as_lists(TWO), list(HOP), lab.as_lists((OUT, CUT))
        desk = Board(stand)
        desk.do(deed)
        desk.follow(plan)
        kept = whole_of(desk)
        self.assertEqual((stand, deed, plan), (lab.as_lists(TWO), list(HOP), lab.as_lists((OUT, CUT))))
        stand[0][0][0][0] = 99
        stand[1][1].clear()
        deed[0] = "bend"
        plan[0][1] = 7
        plan.clear()
        self.assertEqual(whole_of(desk), kept)

    def test_what_is_told_is_told_in_tuples(self):
        desk = Board(lab.as_lists(TWO))
        desk.do(list(HOP))
        desk.follow(lab.as_lists((OUT, CUT)))
        for told in (desk.first(), desk.stand(), desk.plan(), desk.table_now(), desk.cuts_done()):
            self.assertEqual(repr(told), repr(lab.as_tuples(told)))

    def test_the_same_look_twice(self):
        desk = Board(TWO)
        desk.follow((HOP, CUT))
        self.assertEqual(whole_of(desk), whole_of(desk))


if __name__ == "__main__":
    unittest.main()
