"""The examples of the document, word for word, section by section."""

CORDS = """
>>> square, skew = ((0, 0, 0), (1, 2, -1, -2)), ((0, 0, 0), (1, 2, 3, -2, -1, -3))
>>> coil, hoop = ((0, 0, 0), (1, 2, 1, 3, -1, -1, -2, -3)), ((0, 0, 0), (1, 1, 2, 2, -1, -1, -2, -2))
>>> ring = ((1, 1, 0), (3, 1, 1, -3, -3, -1, -1, 3))
>>> points(coil)
((0, 0, 0), (1, 0, 0), (1, 1, 0), (2, 1, 0), (2, 1, 1), (1, 1, 1), (0, 1, 1), (0, 0, 1))
>>> corners(coil), corners(hoop), boxes(coil), boxes(ring)
((0, 1, 2, 3, 4, 6, 7), (0, 2, 4, 6), ((0, 0, 0), (2, 1, 1)), ((1, 1, -1), (3, 1, 1)))
>>> begun(coil, 3), turned_back(square)
(((2, 1, 0), (3, -1, -1, -2, -3, 1, 2, 1)), ((0, 0, 0), (2, 1, -2, -1)))
>>> least_form(square), least_form(coil)[1], alike(square, ((5, 0, 2), (-1, 2, 1, -2))), alike(skew, turned_back(begun(skew, 4)))
(((0, 0, 0), (-2, -1, 2, 1)), (-3, -1, -2, -1, 3, 2, 1, 1), True, True)
>>> is_cord(ring), is_cord(((0, 0, 0), (1, -1))), is_cord(((0, 0, 0), (1, 2, -1, 2))), is_cord([(0, 0, 0), (1, 2, -1, -2)]), is_cord(((0, 0), (1, 2, -1, -2)))
(True, False, False, False, False)
>>> is_yard((hoop, ring)), is_yard((hoop, square)), is_yard(()), is_yard(hoop)
(True, False, False, False)
>>> all_cords(4), len(all_cords(6)), len(all_cords(8))
([((0, 0, 0), (-3, -2, 3, 2)), ((0, 0, 0), (-3, -1, 3, 1)), ((0, 0, 0), (-2, -1, 2, 1))], 22, 207)
>>> begun(square, 4)
raises NoPlace(place=4)
>>> all_cords(5)
raises Unfit()
>>> corners(((0, 0, 0), (1, 2, -1)))
raises Unfit()
"""

SPACES = """
>>> turned(coil, (2, 3, 1)), turned(((1, 0, 2), (1, 2, -1, -2)), (3, -2, 1))
(((0, 0, 0), (2, 3, 2, 1, -2, -2, -3, -1)), ((2, 0, 1), (3, -2, -3, 2)))
>>> [is_mirror(own) for own in ((1, 2, 3), (1, 2, -3), (2, 3, 1), (2, 1, 3), (-1, -2, -3))], len(all_turns()), all_turns()[0]
([False, True, False, True, True], 48, (-3, -2, -1))
>>> put_together((2, 3, 1), (1, 2, -3)), put_together((1, 2, -3), (2, 3, 1)), turn_back((2, 3, 1)), turn_back((-2, 1, 3))
((2, -3, 1), (2, 3, -1), (3, 1, 2), (2, -1, 3))
>>> shifted(square, (1, 0, -2)), is_turn((1, 2, -3)), is_turn((1, 2, 2)), is_turn([1, 2, 3])
(((1, 0, -2), (1, 2, -1, -2)), True, False, False)
>>> turned_band((coil, (0, 0, 0, 0, 0, 0, 0, 1)), (1, 2, -3))
(((0, 0, 0), (1, 2, 1, -3, -1, -1, -2, 3)), (0, 0, 0, 0, 0, 0, 0, -1))
>>> turned_band((coil, (0, 0, 0, 0, 0, 0, 0, 0)), (1, 2, 3))
raises Unfit()
"""

LOOKS = """
>>> square, skew = ((0, 0, 0), (1, 2, -1, -2)), ((0, 0, 0), (1, 2, 3, -2, -1, -3))
>>> coil = ((0, 0, 0), (1, 2, 1, 3, -1, -1, -2, -3))
>>> hoop, ring = ((0, 0, 0), (1, 1, 2, 2, -1, -1, -2, -2)), ((1, 1, 0), (3, 1, 1, -3, -3, -1, -1, 3))
>>> crossings(skew, (3, 4, 5)), crossings(skew, (5, 4, 3)), crossings(skew, (3, 4, -5)), crossings(square, (1, 1, 1))
([(0, 3, 1)], [(3, 5, 1)], [(1, 4, -1)], [])
>>> crossings_between(hoop, ring, (5, 6, 7)), seen_between(ring, hoop, (5, 6, 7)), seen(skew, (-3, -4, -5)), seen(skew, (-3, 4, -5))
([(2, 2, 1), (3, 6, 1)], 2, 1, 0)
>>> is_clean((skew,), (1, 1, 1)), is_clean((skew,), (3, 4, 5)), is_clean((hoop, ring), (1, 1, 1)), octant_of((3, -4, 5)), is_look((1, 0, 2))
(False, True, False, (1, -1, 1), False)
>>> [seen(coil, clean_look((coil,), octant)) for octant in ((1, 1, 1), (1, 1, -1), (1, -1, 1), (-1, 1, 1))]
[-1, 0, 0, 0]
>>> is_clean((hoop, ring), clean_look((hoop, ring), (1, -1, 1))), octant_of(clean_look((skew,), (-1, 1, 1)))
(True, (-1, 1, 1))
>>> seen(skew, (1, 1, 1))
raises NotClean()
>>> seen_between(hoop, square, (5, 6, 7))
raises Unfit()
"""

LINKS = """
>>> hoop, ring = ((0, 0, 0), (1, 1, 2, 2, -1, -1, -2, -2)), ((1, 1, 0), (3, 1, 1, -3, -3, -1, -1, 3))
>>> link(hoop, ring), link(ring, hoop), link(hoop, turned_back(ring)), link_by(hoop, ring, (1, 9, 81)), link_by(hoop, ring, (81, -9, 1))
(1, 1, -1, 1, 1)
>>> aside, through = ((9, 0, 0), (1, 2, -1, -2)), ((1, -1, 0), (1, 3, 3, -1, -1, -3, -3, 1))
>>> link(hoop, aside), link(hoop, through), link(ring, through)
(0, 0, 0)
>>> long, bead = ((1, 1, 0), (3, 1, 1, 1, 1, -3, -3, -1, -1, -1, -1, 3)), ((4, 0, 0), (1, 1, 2, 2, -1, -1, -2, -2))
>>> link(bead, long), link(hoop, bead)
(-1, 0)
>>> link_table((hoop, aside, long, bead)), linked_lots((hoop, aside, long, bead))
(((0, 0, 1, 0), (0, 0, 0, 0), (1, 0, 0, -1), (0, 0, -1, 0)), [(0, 2, 3), (1,)])
>>> link_by(hoop, ring, (1, 1, 1))
raises NotClean()
>>> link(hoop, hoop)
raises Unfit()
"""

SKINS = """
>>> rim(((((0, 0, 0), 3), 1),))
(((0, 0, 0), 1, 1), ((0, 0, 0), 2, -1), ((0, 1, 0), 1, -1), ((1, 0, 0), 2, 1))
>>> thin = ((((0, 0, 0), 2), -1), (((1, 0, 0), 1), 1))
>>> is_skin(skew, thin), is_skin(skew, thin[:1]), is_skin(skew, list(thin)), [met(thin, skew, own) for own in ((1, 1, 1), (1, 1, -1), (1, -1, 1), (-1, 1, 1))]
(True, False, False, [1, -1, 0, 0])
>>> flat = tuple([(((x, y, 0), 3), 1) for x in (0, 1) for y in (0, 1)])
>>> is_skin(hoop, flat), met(flat, ring, (1, 1, 1)), met(flat, ring, (-1, 1, -1)), met(flat, hoop, (1, 1, 1))
(True, 1, 1, 0)
>>> box = ((((0, 0, 0), 1), -1), (((0, 0, 0), 2), -1), (((0, 0, 0), 3), -1), (((0, 0, 1), 3), 1), (((0, 1, 0), 2), 1), (((1, 0, 0), 1), 1))
>>> rim(box), len(skins_added(thin, box)), is_skin(skew, skins_added(thin, box)), met(box, skew, (1, 1, 1)), is_skin(coil, skin(coil))
((), 6, True, 0, True)
>>> skins_added(flat, flat[:1] + ((((1, 1, 0), 3), -1),))
((((0, 0, 0), 3), 2), (((0, 1, 0), 3), 1), (((1, 0, 0), 3), 1))
>>> is_square(((0, 0, 0), 3)), is_square(((0, 0, 0), -3)), is_square(((0, 0), 1))
(True, False, False)
>>> met(flat, ((0, 0, 0), (1, 2)), (1, 1, 1))
raises Unfit()
"""

PUSHES = """
>>> square, skew = ((0, 0, 0), (1, 2, -1, -2)), ((0, 0, 0), (1, 2, 3, -2, -1, -3))
>>> coil = ((0, 0, 0), (1, 2, 1, 3, -1, -1, -2, -3))
>>> four(square), four(skew), four(coil)
((0, 0, 0, 0), (1, -1, 0, 0), (-1, 0, 0, 0))
>>> [corner_sum(own, (1, 1, 1)) for own in (square, skew, coil)], corner_sum(skew, (1, 1, -1)), corner_sum(coil, (-1, 1, 1))
([0, 4, -3], -4, 1)
>>> self_link(coil, (1, 1, 1)), self_link(coil, (-1, -1, -1)), self_link(skew, (1, 1, -1)), self_link(skew, (1, -1, -1))
(-1, -1, -1, 0)
>>> four_by(coil, (1, 1, -1), 0), four_by(coil, (1, 1, -1), 5), four_by(skew, (-1, -1, 1), -1)
((-1, 0, 0, 0), (4, 5, 5, 5), (1, -1, 0, 0))
>>> octant_change(coil, (1, 1, 1), 3), octant_change(coil, (1, 1, -1), 3), octant_change(skew, (1, 1, 1), 3)
(-1, 1, 2)
>>> self_link(((0, 0, 0), (1, 2, -1)), (1, 1, 1))
raises Unfit()
"""

QUARTERS = """
>>> quarters(square), quarters(skew), quarters(coil), quarters(((5, 5, 5), (1, 2, 1, -2, -3, -1, -1, 3)))
(0, 0, -1, 1)
>>> quarters_by(coil, (1, -1, 1), 0), quarters_by(coil, (1, 1, 1), 0), quarters_by(skew, (1, 1, 1), 1)
(-1, 3, 0)
>>> bend_change(1, 2, 1, 3), quarters(((0, 0, 0), (1, 1, 2, 3, -1, -1, -2, -3))), bend_change(3, 1, 2, 3), bend_change(1, 2, 1, 2)
(1, 0, -2, 0)
>>> out_change(1, 1, 3, 2), out_change(2, 1, 3, 2), out_change(-2, 1, 3, 2), out_change(1, 1, 3, 1)
(1, 2, 0, 0)
>>> [len(changed_rows(number)) for number in (-3, -2, -1, 0, 1, 2)], changed_rows(2)[:2]
([0, 24, 96, 144, 96, 24], [(-3, -2, 1, -3), (-3, -1, -2, -3)])
>>> bend_change(-1, 1, 2, 1)
raises Unfit()
>>> bend_change(1, 2, 1, -2)
raises Unfit()
>>> out_change(-3, 1, 3, 1)
raises Unfit()
"""

SIDES = """
>>> carried(2, 1, 2), carried(-2, 1, 2), carried(3, 1, 2), carried(3, 1, 1), carried(1, -3, -1)
(-1, 1, 3, 3, -3)
>>> side_turned(2, 1, 1), side_turned(2, 1, 2), side_turned(2, 1, -1), side_turned(2, -1, 1), side_turned(3, 1, 6)
(3, -2, -3, -3, -3)
>>> square, skew = ((0, 0, 0), (1, 2, -1, -2)), ((0, 0, 0), (1, 2, 3, -2, -1, -3))
>>> coil = ((0, 0, 0), (1, 2, 1, 3, -1, -1, -2, -3))
>>> home(square), home(skew), home(coil), home(((0, 0, 0), (1, 2, 1, -3, -1, -1, -2, 3)))
(0, 0, 3, 1)
>>> sides((square, (0, 0, 0, 0)), 2), sides((square, (1, 0, -1, 0)), 3)
(((2, 2), (-1, -1), (-2, -2), (1, 1)), ((3, -2), (1, 1), (2, 3), (3, 3)))
>>> sides((coil, (0, 0, 0, 0, 0, 0, 0, 1)), 2)[5:]
((2, 2), (-1, -1), (-1, 2))
>>> carried(1, 1, 2)
raises Unfit()
>>> sides((square, (0, 0, 0, 0)), -1)
raises Unfit()
"""

BANDS = """
>>> is_band((square, (0, 0, 0, 4))), is_band((square, (0, 0, 0, 1))), is_band((coil, (0,) * 8)), is_band((coil, (0, 0, 1, 0, 0, 0, 0, 0)))
(True, False, False, True)
>>> is_band((square, [0, 0, 0, 0])), is_band((square, (0, 0, 0))), is_band((square, (0, 0, 0, False)))
(False, False, False)
>>> whole((square, (0, 0, 0, 4))), whole((coil, (0, 0, 1, 0, 0, 0, 0, 0))), whole((coil, (3, 0, 0, 0, 2, 0, 0, -8)))
(1, 0, -1)
>>> plain_band(coil, 2)[1], plain_band(square, -1)
((0, 0, 0, 0, 0, 0, 0, 9), (((0, 0, 0), (1, 2, -1, -2)), (0, 0, 0, -4)))
>>> strip = (square, (1, 2, 3, -2))
>>> slid(strip, 1, 5)[1], band_begun(strip, 1), band_back(strip)
((1, 7, -2, -2), (((1, 0, 0), (2, -1, -2, 1)), (2, 3, -2, 1)), (((0, 0, 0), (2, 1, -2, -1)), (-2, 3, 2, 1)))
>>> whole(strip), whole(band_back(strip)), same_band(strip, (square, (0, 4, 0, 0))), same_band(strip, band_begun(strip, 1))
(1, 1, True, False)
>>> needed(coil, (0,) * 8), needed(square, (1, 0, 0, 0)), needed(square, (0, 0, 0, 8))
(1, 3, 0)
>>> slid(strip, 3, 1)
raises NoPlace(place=4)
>>> whole((square, (1, 0, 0, 0)))
raises Unfit()
"""

DEEDS = """
>>> flat, wound = (square, (0, 0, 0, 0)), (coil, (0, 0, 0, 0, 0, 0, 0, 1))
>>> outs((flat,), 0)[:4], len(outs((flat,), 0)), bends((flat,), 0), ins((flat,), 0)
([('out', 0, 0, -3), ('out', 0, 0, -2), ('out', 0, 0, 3), ('out', 0, 1, -3)], 12, [], [])
>>> done((flat,), ("out", 0, 0, 3))
((((0, 0, 0), (3, 1, -3, 2, -1, -2)), (0, 0, 0, 0, 0, 0)),)
>>> ins((wound,), 0), done((wound,), ("in", 0, 2))
([('in', 0, 2)], ((((0, 0, 0), (1, 2, 3, -1, -2, -3)), (0, 0, -1, 0, 0, 1)),))
>>> done((wound,), ("begin", 0, 6))[0]
(((0, 1, 1), (-2, -3, 1, 2, 1, 3, -1, -1)), (0, 1, 0, 0, 0, 0, 0, 0))
>>> over = ((1, -1, 1), (2, 2, 2, 3, 3, -2, -2, -2, -3, -3))
>>> two = ((hoop, (0,) * 8), (over, (0,) * 10))
>>> led = done(two, ("hop", 0, 0, 3))
>>> led[0][0][1], can_do(two, ("hop", 0, 0, -3)), done(led, ("back", 0, 0)) == two
((3, 3, 1, 1, -3, -3, 2, 2, -1, -1, -2, -2), False, True)
>>> is_deed(("out", 0, 0, 4)), is_deed(("cut", -1, 0)), is_deed(["begin", 0, 0]), can_do((flat,), ("cut", -1, 0))
(False, True, False, False)
>>> done((flat,), ("bend", 0, 3))
raises NoPlace(place=4)
>>> done((flat,), ("out", 0, 0, 2))
raises Taken(point=(0, 1, 0))
>>> done((flat,), ("in", 0, 0))
raises CanNot()
"""

EFFECTS = """
>>> coil = ((0, 0, 0), (1, 2, 1, 3, -1, -1, -2, -3))
>>> one = (plain_band(coil, 0),)
>>> [quarters_change(one, own) for own in (("bend", 0, 0), ("out", 0, 0, -2), ("slide", 0, 0, 7), ("begin", 0, 3), ("cut", 0, -2))]
[1, -1, 0, 0, 0]
>>> [whole_change(one, own) for own in (("bend", 0, 0), ("out", 0, 0, -2), ("cut", 0, -2))], quarters(coil), quarters(done(one, ("out", 0, 0, -2))[0][0])
([0, 0, -2], -1, -2)
>>> low, ring = ((0, 0, 0), (1, 1, -2, -1, -1, 2)), ((1, 1, 0), (3, 1, 1, -3, -3, -1, -1, 3))
>>> pair, over = (plain_band(low, 0), plain_band(ring, 5)), ("hop", 0, 0, 2)
>>> quarters_change(pair, over), whole_change(pair, over), links_changed(pair, over), links_changed(pair, ("out", 1, 3, 2))
(0, 0, ((1, -1),), ())
>>> led = done(pair, over)
>>> links_changed(led, ("back", 0, 0)), link(low, ring), link(led[0][0], ring), whole(led[1])
(((1, 1),), 0, -1, 5)
>>> loop = (plain_band(((0, 0, 0), (1, 1, -3, 2, -1, 3, 3, -1, -2, -3)), 0),)
>>> quarters_change(loop, over), whole_change(loop, over), links_changed(loop, over), whole(done(loop, over)[0])
(-6, -2, (), -2)
>>> quarters_change(one, ("bend", 0, 4))
raises Unfit()
>>> whole_change(pair, ("out", 0, 0, 2))
raises Taken(point=(1, 1, 0))
"""

PLANS = """
>>> skew, plate = ((0, 0, 0), (1, 2, 3, -2, -1, -3)), ((0, 0, 5), (1, 2, -1, -2))
>>> two = (plain_band(skew, 1), plain_band(plate, 0))
>>> way = (("bend", 0, 0), ("out", 1, 0, 3), ("slide", 1, 1, 2), ("cut", 1, -1), ("begin", 0, 2))
>>> behind_plan(two, way)[1], is_plan(two, way), is_plan(two, way + way[:1]), is_plan(two, list(way))
((((0, 0, 5), (3, 1, -3, 2, -1, -2)), (-4, 2, -2, 0, 0, 0)), True, True, False)
>>> [whole(own) for own in behind_plan(two, way)], ledger(two, way)
([1, -1], [(0, 0), (0, 0), (0, 0), (0, -1), (0, 0)])
>>> back = (("begin", 0, 4), ("cut", 1, 1), ("slide", 1, 1, -2), ("in", 1, 0), ("bend", 0, 0))
>>> is_plan_back(two, way, back), is_plan_back(two, way, back[:4]), is_plan_back(two, way, plan_back(two, way))
(True, False, True)
>>> spun = ((skew, (9, 0, 0, 0, 0, -5)), two[1])
>>> behind_plan(two, slides(two, spun)) == spun, {own[0] for own in slides(two, spun)}, slides(two, two)
(True, {'slide'}, ())
>>> behind_plan(two, (("bend", 0, 0), ("in", 1, 0)))
raises Broken(place=1)
>>> slides(two, (plain_band(skew, 2), two[1]))
raises CanNot()
>>> ledger(two, (("bend", 0),))
raises Unfit()
"""

HOPS = """
>>> low, high = ((0, -1, 0), (2, 2, -3, -3, -2, -2, 3, 3)), ((-1, 0, 1), (1, 1, 3, -1, -1, -3))
>>> two = (plain_band(low, 0), plain_band(high, 0))
>>> hops(two, 1), hop_sign(two, ("hop", 1, 0, -3)), hop_below(two, ("hop", 1, 0, -3))
([('hop', 1, 0, -3)], -1, (0, 0))
>>> led = done(two, ("hop", 1, 0, -3))
>>> led[1][0], link(two[0][0], two[1][0]), link(led[0][0], led[1][0]), [whole(own) for own in led]
(((-1, 0, 1), (-3, -3, 1, 1, 3, 3, 3, -1, -1, -3)), 0, -1, [0, 0])
>>> hop_sign(led, ("back", 1, 0)), hop_below(led, ("back", 1, 0)), done(led, ("back", 1, 0)) == two
(1, (0, 0), True)
>>> hop_sign(two, ("slide", 1, 0, 5))
raises Unfit()
>>> hop_sign(two, ("hop", 1, 0, 3))
raises Taken(point=(-1, 0, 2))
"""

ROOMS = """
>>> flat = (plain_band(square, 0),)
>>> len(room_points(square, 0, 3, 1)), room_points(square, 0, 3, 1)[:3], len(rooms(flat, 0)), rooms(flat, 0)[:2]
(21, ((0, 0, 1), (0, 0, 2), (0, 0, 3)), 24, [(0, -3, -1), (0, -3, 1)])
>>> way = round_plan(flat, 0, (0, 3, 1))
>>> len(way), behind_plan(flat, way), is_round_plan(flat, 0, way), is_round_plan(flat, 0, ())
(23, ((((0, 0, 0), (1, 2, -1, -2)), (-8, 0, 0, 0)),), True, False)
>>> fewest_hops(flat, (plain_band(square, -6),)), fewest_hops(two, (slid(two[0], 0, 3), plain_band(high, 4)))
(3, 2)
>>> far = (plain_band(square, 4),)
>>> is_whole_plan(flat, far, whole_plan(flat, far)), is_whole_plan(flat, far, way), is_whole_plan(flat, flat, ())
(True, False, True)
>>> fewest_hops(flat, (plain_band(square, 1),))
raises CanNot()
>>> round_plan(flat, 0, (0, 2, 1))
raises Unfit()
"""

YARDS = """
>>> level, upright = (square, (0, 0, 0, 0)), (((5, 0, 0), (1, 3, -1, -3)), (0, 2, 2, 0))
>>> chained = ((hoop, (0,) * 8), (ring, (8, 0, 0, 0, 0, 0, 0, 0)))
>>> table((level, upright)), table(chained)
(((0, 1), ((0, 0), (0, 0))), ((0, 2), ((0, 1), (1, 0))))
>>> fewest_for(chained, ((0, 0), ((0, 0), (0, 0)))), fewest_for(chained, ((-4, 2), ((0, 3), (3, 0)))), fewest_for(chained, table(chained))
(2, 4, 0)
>>> fewest_for(chained, ((1, 2), ((0, 1), (1, 0))))
raises CanNot()
>>> fewest_for(chained, ((0, 2), ((0, 1), (-1, 0))))
raises Unfit()
>>> flat, petrie = ((0, 0, 0), (1, 1, 2, -1, -1, -2)), ((0, 0, 0), (1, 2, 3, -1, -2, -3))
>>> led_to(flat), [len(led_to(own)) for own in (square, skew, petrie)], led_to(coil) == led_to(begun(coil, 3))
([((0, 0, 0), (-2, -1, 2, 1))], [10, 4, 6], True)
>>> least_way(square, upright[0])
[((0, 0, 0), (-2, -1, 2, 1)), ((0, 0, 0), (-3, -2, -1, 2, 3, 1)), ((0, 0, 0), (-3, -1, 3, 1))]
>>> [len(least_way(flat, own)) for own in (flat, square, skew, petrie)], counted(4, 0), counted(6, 0), counted(6, 1)
([1, 2, 5, 4], 3, 22, 0)
>>> led_to(((0, 0, 0), (1, 1, 1, 1, 2, -1, -1, -1, -1, -2)))
raises TooMany()
"""

JOINS = """
>>> lap = ((1, -1, 0), (-1, -2, 1, 2))
>>> joins(square, lap), joined(square, 0, lap, 0, -2), join_change(square, 0, lap, 0, -2), can_join(square, 0, lap, 1, -2)
([(0, 0, -2)], ((0, 0, 0), (-2, -2, 1, 2, 2, 2, -1, -2)), 0, False)
>>> tail = joined(skew, 0, lap, 0, -2)
>>> tail, join_change(skew, 0, lap, 0, -2), quarters(tail)
(((0, 0, 0), (-2, -2, 1, 2, 2, 2, 3, -2, -1, -3)), -1, -1)
>>> parts(tail), parted(tail, 0, 4) == (skew, ((0, -1, 0), (-2, 1, 2, -1))), parted_link(tail, 0, 4), can_part(tail, 1, 3)
([(0, 4), (4, 0)], True, 0, False)
>>> loop = ((1, 1, 0), (3, 1, -2, -1, -2, -3, -3, 2, 2, 3))
>>> joins(hoop, loop), join_change(hoop, 1, loop, 3, 3), link(hoop, loop) ** 2
([(1, 3, 3), (2, 2, 3)], -1, 1)
>>> parted(square, 0, 2)
raises Unfit()
"""

JUDGE = """
>>> [is_so(("quarters", own, many)) for own, many in ((skew, 0), (coil, -1), (coil, 1), (tail, -1))]
[True, True, False, True]
>>> is_claim(("link", hoop, square, 0)), is_so(("link", hoop, ((0, 0, 5), (1, 2, -1, -2)), 0)), is_so(("link", hoop, loop, 0))
(False, True, False)
>>> [is_reason_for(("look", coil, (1, 1, 1), -1), own) for own in ((2, 3, 7), (-2, -3, -7), (2, 3, 0))]
[True, False, False]
>>> is_paper_against(("quarters", skew, 1), ((1, 1, 1), 1)), is_reason_for(("quarters", skew, 0), ((1, 1, 1), 1))
(True, True)
>>> some, far = (plain_band(square, 0),), (plain_band(square, 3),)
>>> is_so(("still", some, (slid(some[0], 0, 2),))), paper_against(("comes", some, far)), is_so(("comes", some, (plain_band(square, 2),)))
(True, 0, True)
>>> first_fallen((("quarters", skew, 0), ("still", some, far)))
1
"""

TEXTS = """
>>> square, coil = ((0, 0, 0), (1, 2, -1, -2)), ((0, 0, 0), (1, 2, 1, 3, -1, -1, -2, -3))
>>> yard_text((square, ((5, -1, 0), (3, 2, -3, -2)))), strokes_name(coil[1]), strokes_read("xyXY"), strokes_read("xw")
('cord 0.0.0 xyXY\\ncord 5.-1.0 zyZY\\n', 'xyxzXXYZ', (1, 2, -1, -2), None)
>>> stand_text(((coil, (0, 0, 0, 0, 0, 0, 0, 1)),)), read_stand("band 0.0.0 xyXY -4,0,0,4")
('band 0.0.0 xyxzXXYZ 0,0,0,0,0,0,0,1\\n', ((((0, 0, 0), (1, 2, -1, -2)), (-4, 0, 0, 4)),))
>>> plan_text((("out", 0, 1, -3), ("slide", 0, 2, -1), ("begin", 1, 0))), deed_read("hop 0 3 Z"), deed_read("bend 0 1 z")
('out 0 1 Z\\nslide 0 2 -1\\nbegin 1 0\\n', ('hop', 0, 3, -3), None)
>>> read_yard("cord 0.0.0 xyXY\\ncord 0.0.0")
raises BadLine(number=1)
>>> read_stand("band 0.0.0 xyXY 0,0,0,1")
raises Unfit()
"""

BOARD = """
>>> linked = ((hoop, (0,) * 8), (ring, (0,) * 8))
>>> desk = Board(linked)
>>> desk.do(("hop", 0, 2, 1)), desk.stand()[0], desk.hops_done(), desk.table_now() == desk.twin().table_now()
(None, (((0, 0, 0), (1, 1, 1, 1, 2, 2, -1, -1, -1, -1, -2, -2)), (0, 0, 0, 0, 0, 0, 0, 0, 0, 0, 0, 0)), 1, True)
>>> link_table([desk.first()[0][0], desk.first()[1][0]])[0][1], link_table([desk.stand()[0][0], desk.stand()[1][0]])[0][1]
(1, 0)
>>> mate = desk.twin()
>>> desk.follow((("out", 1, 2, 3), ("slide", 1, 0, 2))), desk.stand()[1], desk.plan()[1:], desk == mate
(None, (((1, 1, 0), (3, 1, 3, 1, -3, -3, -3, -1, -1, 3)), (2, -2, 0, 0, 0, 0, 0, 0, 0, 0)), (('out', 1, 2, 3), ('slide', 1, 0, 2)), False)
>>> desk.undo(), desk == mate, desk.undo(), desk.stand() == linked, desk.redo(), desk.hops_done(), desk.could(("bend", 0, 0))
('follow', True, 'do', True, 'do', 1, False)
>>> desk.do(("cut", 0, 2)), desk.stand()[0][1][:2], desk.cuts_done()
(None, (8, 0), (2, 0))
>>> desk.do(("in", 5, 0))
raises NoBand(number=5)
>>> Board(linked).redo()
raises NothingDone()
"""
