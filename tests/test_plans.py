"""[15]: plans.py."""

import random
import unittest
from collections import Counter

import lab
import model
import walks
from fourlooks.bands import plain_band, whole
from fourlooks.deeds import done
from fourlooks.links import link_table
from fourlooks.plans import behind_plan, is_plan, is_plan_back, ledger, plan_back, slides
from fourlooks.quarters import quarters

FAR = 10 ** 6
TWO = (lab.BAND_LOW, lab.BAND_HIGH)
# What is no tuple of DEEDS by form.
NO_PLANS = (
    None, 0, "", "bend", True, {}, object(), ("bend", 0, 0), (("bend", 0),), (("bend", 0, 0, 0),), ((),), (None,),
    (("out", 0, 0, 0),), (("hop", 0, 0, 4),), (("cut", 0, True),), ((("cut", 0, 1),),), ("cut",), (0,), ([],),
    (("cut", 0, 1), ("cut", 0)), (("cut", 0, 1), None), (("cuts", 0, 1),), (("cut", 0, 1), "cut"), lab.never_ending(),
    (lab.never_ending(),), (("bend", (0,), 0),),
)


def over_itself(cord=lab.LOOP):
    """A STAND with a hop of its BAND over itself, at place 0 by 2, all turns unlike."""
    return ((cord, model.random_band(cord, 4)[1]),)


class BehindPlan(unittest.TestCase):
    def test_deed_by_deed(self):
        words = Counter()
        for stand, plan, stands in walks.plans():
            self.assertEqual(behind_plan(stand, plan), stands[-1])
            for many in range(len(plan)):
                self.assertEqual(behind_plan(stand, plan[:many]), stands[many])
                self.assertEqual(behind_plan(stands[many], plan[many:]), stands[-1])
            words.update(deed[0] for deed in plan)
        self.assertEqual(set(words), set(model.WANTED))

    def test_without_deeds(self):
        for stand in model.stands()[::5]:
            self.assertEqual(behind_plan(stand, ()), stand)
            self.assertEqual(behind_plan(stand, []), stand)

    def test_it_breaks_at_its_first_deed_in_its_midst_at_its_last_one(self):
        bad = (("bend", 9, 0), ("out", 0, FAR, 1), ("begin", 0, -1), ("slide", 0, -2, 0), ("cut", -1, 0))
        for stand, plan, _ in walks.plans()[::3]:
            for place in {0, len(plan) // 2, len(plan)}:
                for deed in bad:
                    tried = plan[:place] + (deed,) + plan[place:]
                    for function in (behind_plan, plan_back, ledger):
                        self.assertEqual(walks.told_error(function, stand, tried), ("Broken", place))

    def test_it_breaks_by_each_of_the_five_errors(self):
        sill = model.stand_of((model.SILL,))
        for stand, deed, name in ((TWO, ("bend", 2, 0), "NoBand"), (TWO, ("bend", 0, 7), "NoPlace"),
                                  (TWO, ("bend", 0, 0), "Unfit"), ((lab.FLAT,), ("out", 0, 0, 2), "Taken"),
                                  ((lab.FLAT,), ("in", 0, 0), "CanNot"), (sill, ("hop", 0, 0, 3), "CanNot")):
            self.assertEqual(walks.told_error(done, stand, deed)[0], name)
            for many in (0, 1, 3):
                plan = (("cut", 0, 1),) * many + (deed, ("bend", 7, 7))
                self.assertEqual(walks.told_error(behind_plan, stand, plan), ("Broken", many))
                self.assertIs(is_plan(stand, plan), False)

    def test_a_deed_breaks_in_its_turn_not_ahead_of_it(self):
        flat = (lab.FLAT,)
        plan = (("out", 0, 0, 3), ("out", 0, 5, -1), ("in", 0, 0))
        self.assertEqual(walks.told_error(behind_plan, flat, plan[1:]), ("Broken", 0))
        self.assertEqual(behind_plan(flat, plan[:1] + plan[2:]), flat)
        self.assertEqual(walks.told_error(behind_plan, flat, plan[:2]), None)
        self.assertEqual(walks.told_error(behind_plan, flat, plan[:1] * 2), ("Broken", 1))
        self.assertEqual(walks.told_error(behind_plan, flat, plan[2:] + plan[:1]), ("Broken", 0))

    def test_random_rows_break_where_the_tests_say(self):
        rng = random.Random(15)
        names = Counter()
        for stand in model.stands()[::2]:
            for _ in range(6):
                row = tuple(walks.random_deed(rng, stand, tuple(model.WANTED)) for _ in range(4))
                broken = walks.broken_at(stand, row)
                names[broken and broken[1]] += 1
                told = walks.told_error(behind_plan, stand, row)
                self.assertEqual(told, broken and ("Broken", broken[0]))
                self.assertIs(is_plan(stand, row), broken is None)
        self.assertLessEqual({"NoPlace", "Unfit", "Taken", "CanNot", None}, set(names))

    def test_300_deeds(self):
        stand = (lab.FLAT, plain_band(lab.moved(lab.STAIRS, (50, 0, 9)), 4))
        plan = (("out", 0, 0, 3), ("slide", 0, 0, 7), ("begin", 0, 3), ("begin", 0, 3), ("slide", 0, 0, -7),
                ("in", 0, 0)) * 50
        self.assertEqual(behind_plan(stand, plan), stand)
        self.assertIs(is_plan(stand, plan), True)
        self.assertIs(is_plan_back(stand, plan, plan_back(stand, plan)), True)
        self.assertEqual(len(ledger(stand, plan)), 300)
        # Each out goes farther up: nothing is refused because it is great.
        tower = tuple(("out", 0, place, 3) for place in range(300))
        led = behind_plan(stand, tower)
        self.assertEqual(led[0][0][1], (3,) * 300 + (1,) + (-3,) * 300 + (2, -1, -2))
        self.assertEqual(behind_plan(led, plan_back(stand, tower)), stand)

    def test_what_is_no_tuple_of_deeds_is_unfit_ahead_of_broken(self):
        for bad in NO_PLANS:
            for own in [bad] + lab.listed(bad):
                for function in (behind_plan, plan_back, ledger):
                    self.assertEqual(walks.told_error(function, TWO, own), ("Unfit",))
                for thing in ((), None, 5):
                    self.assertEqual(walks.told_error(is_plan_back, TWO, own, thing), ("Unfit",))
        for plan in ((("bend", 9, 0), ("cut", 0)), (("bend", 9, 0), ("out", 0, 0, 4))):
            self.assertEqual(walks.told_error(behind_plan, TWO, plan), ("Unfit",))


class IsPlan(unittest.TestCase):
    def test_plans_and_their_begins(self):
        for stand, plan, stands in walks.plans():
            for many in range(len(plan) + 1):
                self.assertIs(is_plan(stand, plan[:many]), True)
                self.assertIs(is_plan(stands[many], plan[many:]), True)

    def test_broken_ones(self):
        for stand, plan, _ in walks.plans()[::4]:
            for place in range(len(plan) + 1):
                self.assertIs(is_plan(stand, plan[:place] + (("begin", 0, -1),) + plan[place:]), False)

    def test_lists_are_no_tuples(self):
        for stand, plan, _ in walks.plans()[::5]:
            self.assertIs(is_plan(stand, list(plan)), False)
            for place in range(len(plan)):
                self.assertIs(is_plan(stand, plan[:place] + (list(plan[place]),) + plan[place + 1:]), False)
        self.assertIs(is_plan(TWO, []), False)

    def test_nothing_else_is_one(self):
        for bad in NO_PLANS + lab.NO_STANDS[::6]:
            if bad != ():
                self.assertIs(is_plan(TWO, bad), False)

    def test_true_is_no_number(self):
        self.assertIs(is_plan(TWO, (("cut", 1, 1), ("begin", 0, 0))), True)
        self.assertIs(is_plan(TWO, (("cut", True, 1), ("begin", 0, 0))), False)
        self.assertIs(is_plan(TWO, (("cut", 1, 1), ("begin", False, 0))), False)

    def test_whatever_numbers_and_however_many_deeds(self):
        great = 10 ** 50
        self.assertIs(is_plan(TWO, (("cut", 0, great), ("slide", 0, 0, -great))), True)
        self.assertIs(is_plan(TWO, (("cut", great, 0),)), False)
        self.assertIs(is_plan(TWO, (("begin", 0, great),)), False)
        self.assertIs(is_plan(TWO, (("begin", 0, 1),) * 800), True)
        self.assertIs(is_plan(TWO, (("begin", 0, 1),) * 800 + (("begin", 0, 8),)), False)


class PlanBack(unittest.TestCase):
    def test_deed_by_deed_to_the_same_cords_starts_and_turns(self):
        for stand, plan, stands in walks.plans():
            back = plan_back(stand, plan)
            self.assertIs(type(back), tuple)
            self.assertEqual(walks.walked(stands[-1], back)[-1], stand)
            self.assertIs(is_plan_back(stand, plan, back), True)

    def test_each_deed_of_all_stands(self):
        words = Counter()
        for stand in model.stands():
            deeds = walks.doable(stand)
            rare = [deed for deed in deeds if deed[0] in ("in", "hop", "back")]
            for deed in rare + deeds[::11] + [("begin", 0, 0), ("begin", 0, len(stand[0][1]) - 1), ("begin", 0, 2),
                                              ("slide", 0, 1, 4), ("cut", 0, -3)]:
                back = plan_back(stand, (deed,))
                self.assertEqual(walks.walked(walks.behind(stand, deed), back)[-1], stand)
                words[deed[0]] += 1
        self.assertEqual(set(words), set(model.WANTED))

    def test_turns_that_ins_and_backs_add_up_come_back_to_their_strokes(self):
        for turn in model.TURNS[::5]:
            cords = [model.led_by(cord, turn) for cord in (model.LIFTED, model.STRAND)]
            stand = tuple((cord, tuple(turns)) for cord, turns in zip(cords, (range(3, 30, 2), range(-9, 30, 2))))
            stand = tuple((cord, model.random_band(cord, 3)[1][:len(cord[1])]) for cord, _ in stand)
            for deed in [("back", 0, 0)] + walks.doable(stand, ("in",)):
                plan = (deed,)
                self.assertEqual(walks.walked(walks.behind(stand, deed), plan_back(stand, plan))[-1], stand)

    def test_without_deeds(self):
        for stand in model.stands()[::9]:
            self.assertIs(is_plan_back(stand, (), plan_back(stand, ())), True)
            self.assertIs(is_plan_back(stand, (), ()), True)

    def test_a_back_undone_over_its_own_cord(self):
        stand = over_itself()
        led = walks.behind(stand, ("hop", 0, 0, 2))
        self.assertIs(is_plan_back(stand, (("hop", 0, 0, 2),), (("back", 0, 0),)), True)
        turns = model.random_band(led[0][0], 8)
        plan = (("back", 0, 0),)
        self.assertEqual(walks.walked(walks.behind((turns,), plan[0]), plan_back((turns,), plan))[-1], (turns,))


class IsPlanBack(unittest.TestCase):
    def test_another_end_is_none(self):
        for stand, plan, stands in walks.plans()[::2]:
            back = plan_back(stand, plan)
            for more, told in (((("cut", 0, 1),), False), ((("slide", 0, 0, 1),), False), ((("begin", 0, 1),), False),
                               ((("begin", 0, 0),), True), ((("cut", 0, 0), ("slide", 0, 0, 0)), True),
                               ((("cut", 0, 1), ("cut", 0, -1)), True)):
                self.assertIs(is_plan_back(stand, plan, back + more), told)
            for many in range(len(back)):
                own = walks.walked(stands[-1], back[:many])[-1]
                self.assertIs(is_plan_back(stand, plan, back[:many]), own == stand)

    def test_the_same_cords_with_other_turns(self):
        stand, plan = (lab.FLAT,), (("slide", 0, 0, 4), ("cut", 0, 1))
        self.assertIs(is_plan_back(stand, plan, (("cut", 0, -1),)), False)
        self.assertIs(is_plan_back(stand, plan, (("slide", 0, 0, -4),)), False)
        self.assertIs(is_plan_back(stand, plan, (("slide", 0, 0, -8), ("slide", 0, 1, -4), ("slide", 0, 2, -4))), False)
        self.assertIs(is_plan_back(stand, plan, (("cut", 0, -1), ("slide", 0, 0, -4))), True)

    def test_nothing_else_is_one(self):
        plan = (("begin", 0, 3),)
        self.assertIs(is_plan_back(TWO, plan, (("begin", 0, 5),)), True)
        for bad in NO_PLANS + lab.NO_STANDS[::6] + ([("begin", 0, 5)], (["begin", 0, 5],), (("begin", 0, 8),), (),
                                                    (("begin", False, 5),)):
            self.assertIs(is_plan_back(TWO, plan, bad), False)

    def test_errors_of_the_plan_whatever_thing_is(self):
        plan = (("cut", 0, 1), ("bend", 0, 7))
        for thing in ((), None, (("cut", 0, -1),), "", plan):
            self.assertEqual(walks.told_error(is_plan_back, TWO, plan, thing), ("Broken", 1))


class Ledger(unittest.TestCase):
    def test_counted_deed_by_deed(self):
        for stand, plan, stands in walks.plans():
            told = []
            for deed, one, two in zip(plan, stands, stands[1:]):
                number = deed[1]
                told.append((quarters(two[number][0]) - quarters(one[number][0]),
                             whole(two[number]) - whole(one[number])))
            own = ledger(stand, plan)
            self.assertEqual(own, told)
            self.assertIs(type(own), list)
            self.assertTrue(all(type(pair) is tuple for pair in own))

    def test_added_up_beside_quarters_and_s(self):
        for stand, plan, stands in walks.plans():
            rows = ledger(stand, plan)
            for number, (band, led) in enumerate(zip(stand, stands[-1])):
                grown = walks.sums([row for row, deed in zip(rows, plan) if deed[1] == number])
                self.assertEqual(grown, (quarters(led[0]) - quarters(band[0]), whole(led) - whole(band)))

    def test_it_is_told_in_its_turn(self):
        # The first bend changes the row of the second one.
        stand = (plain_band(lab.COIL, 0),)
        plan = (("bend", 0, 0), ("bend", 0, 0), ("out", 0, 0, -2), ("cut", 0, 5))
        self.assertEqual(ledger(stand, plan), [(1, 0), (-1, 0), (-1, 0), (0, 5)])
        self.assertEqual(ledger(stand, ()), [])

    def test_over_itself(self):
        self.assertEqual(ledger(over_itself(), (("hop", 0, 0, 2), ("back", 0, 0))), [(-6, -2), (6, 2)])

    def test_each_list_is_new(self):
        first = ledger(TWO, (("cut", 0, 1),))
        first.clear()
        self.assertEqual(ledger(TWO, (("cut", 0, 1),)), [(0, 1)])


class Keeping(unittest.TestCase):
    def test_without_hops_backs_and_cuts_all_s_and_links_stay(self):
        rng = random.Random(16)
        for stand in model.stands()[::3]:
            plan = []
            for _ in range(12):
                deed = walks.random_deed(rng, stand, ("bend", "out", "in", "slide", "begin"))
                if is_plan(stand, tuple(plan) + (deed,)):
                    plan.append(deed)
            led = behind_plan(stand, plan)
            self.assertEqual([whole(band) for band in led], [whole(band) for band in stand])
            self.assertEqual(link_table(walks.cords_of(led)), link_table(walks.cords_of(stand)))


class Slides(unittest.TestCase):
    def test_from_all_turns_to_all_turns_with_equal_s(self):
        for at, stand in enumerate(model.stands()):
            other = tuple((cord, model.random_band(cord, 900 + at + number)[1]) for number, (cord, _) in enumerate(stand))
            goal = []
            for one, (cord, turns) in zip(stand, other):
                more = 4 * (whole(one) - whole((cord, turns)))
                goal.append((cord, turns[:-1] + (turns[-1] + more,)))
            goal = tuple(goal)
            told = slides(stand, goal)
            self.assertIs(type(told), tuple)
            self.assertEqual({deed[0] for deed in told}, {"slide"})
            self.assertEqual(walks.walked(stand, told)[-1], goal)
            if goal != other:
                self.assertEqual(walks.told_error(slides, stand, other), ("CanNot",))

    def test_slides_alone_keep_s(self):
        for stand in model.stands()[::4]:
            plan = tuple(("slide", number, place, 3 * place - number)
                         for number, (_, turns) in enumerate(stand) for place in range(len(turns) - 1))
            led = behind_plan(stand, plan)
            self.assertEqual(behind_plan(stand, slides(stand, led)), led)
            self.assertEqual(behind_plan(led, slides(led, stand)), stand)

    def test_equal_stands(self):
        for stand in model.stands()[::4]:
            self.assertEqual(slides(stand, stand), ())

    def test_one_band_alone_differs(self):
        stand = (lab.BAND_LOW, plain_band(lab.moved(lab.COIL, (9, 9, 9)), 2))
        for number in (0, 1):
            led = done(stand, ("slide", number, 3, 5))
            self.assertEqual(behind_plan(stand, slides(stand, led)), led)
            self.assertEqual({deed[1] for deed in slides(stand, led)}, {number})

    def test_what_no_slides_lead_to(self):
        low, high = lab.BAND_LOW, lab.BAND_HIGH
        moved = (lab.moved(low[0], (0, 0, 9)), low[1])
        begun = done(TWO, ("begin", 0, 2))
        for one, two in ((TWO, TWO[:1]), (TWO[:1], TWO), (TWO, (high, low)), (TWO, (moved, high)), (TWO, begun),
                         (TWO, (plain_band(low[0], 1), high)), (TWO, (low, plain_band(high[0], -1))),
                         (TWO, (plain_band(low[0], 1), plain_band(high[0], -1))), (TWO, (lab.FLAT, high)),
                         (TWO, TWO + (plain_band(lab.moved(lab.SQUARE, (0, 0, 50)), 0),))):
            self.assertEqual(walks.told_error(slides, one, two), ("CanNot",))
            self.assertEqual(walks.told_error(slides, two, one), ("CanNot",))
        # The same strokes of space, gone the other way round.
        self.assertEqual(walks.told_error(slides, (low,), (((low[0][0], lab.told_back(low[0])[1]), low[1]),)), ("CanNot",))


if __name__ == "__main__":
    unittest.main()
