"""The examples of [F7] and of parts G, H and I, as the document prints them."""

from helper import FAN_LINE_RING, ExampleCase

SET_AHEAD = r"""
    >>> round5 = (5, ((0, 1, 0, 0, 1), (1, 0, 1, 0, 0), (0, 1, 0, 1, 0), (0, 0, 1, 0, 1), (1, 0, 0, 1, 0)))
    >>> en = (4, ((0, 0, 1, 0), (0, 0, 1, 1), (0, 0, 0, 0), (0, 0, 0, 0)))
    >>> from piecetrees.looks import turned
"""
ABOUTS = r"""
    >>> from piecetrees.abouts import about, about_way_holds, same_pairs
    >>> same_pairs(line, turned(line)), same_pairs(line, (3, ((0, 0, 1), (0, 0, 1), (0, 0, 0)))), about(line, (0, 1))
    (None, (0, 1), (3, ((0, 0, 1), (1, 0, 1), (0, 0, 0))))
    >>> about_way_holds(line, turned(line), ((0, 1, 2),)), about_way_holds(line, turned(line), ((0, 1), (0, 1)))
    (True, False)
    >>> about(line, (0, 2))
    raises NotPiece((0, 2))
"""
PART_G = r"""
    >>> from piecetrees.formulas import formula_count, formula_error, formula_of, formula_text, has_formula, is_normal, made_normal, parse_formula, table_told
    >>> table_told(3, (1, 1, ((0, 0, (0, 1)), 2))) == fan, table_told(3, (1, 0, (0, 1, 2))) == line, table_told(1, 0)
    (True, True, (1, ((0,),)))
    >>> formula_error(2, (0, 1, (0,))), formula_error(2, (0, 0, (0, 0))), formula_error(0, ()), formula_error(1, 1)
    ('form', 'things', None, 'form')
    >>> en = (4, ((0, 0, 1, 0), (0, 0, 1, 1), (0, 0, 0, 0), (0, 0, 0, 0)))
    >>> has_formula(fan), has_formula(ring), has_formula(en), has_formula(line), has_formula((0, ()))
    (True, False, False, True, True)
    >>> formula_of(fan), formula_of(line), formula_of((3, ((0, 1, 1), (0, 0, 0), (0, 0, 0))))
    ((1, 1, ((0, 0, (0, 1)), 2)), (0, 1, (2, 1, 0)), (0, 1, ((0, 0, (1, 2)), 0)))
    >>> made_normal(3, (1, 0, (0, (1, 0, (1, 2))))), made_normal(3, (1, 1, (2, (0, 0, (1, 0))))), is_normal(3, (0, 1, (2, (0, 1, (1, 0)))))
    ((0, 1, (2, 1, 0)), (1, 1, ((0, 0, (0, 1)), 2)), False)
    >>> formula_of(ring)
    raises NoFormula((0, 1, 2))
    >>> formula_count(fan), formula_count(line), formula_count((3, ((0, 0, 0), (0, 0, 0), (0, 0, 0)))), formula_count(ring)
    (4, 10, 18, 0)
    >>> formula_text(3, (1, 1, ((0, 0, (0, 1)), 2))), parse_formula(3, "(2 0/1 1 0/1 0)")
    ('((0 0/0 1) 1/1 2)', (0, 1, (2, 1, 0)))
    >>> parse_formula(2, "(0 1/0 0)")
    raises NotFormula('things')
"""
PART_H = r"""
    >>> from piecetrees.numbers import beside_lot, chain_lot, chains_hold, fewest_chains, fewest_holds, fewest_lots, heaviest, is_keeping, keeping_at, keeping_count, keeping_place, layers, strewn_lot, mean_place, share_ahead
    >>> heaviest(fan, 1, (5, 2, 3)), heaviest(fan, 0, (5, 2, 3)), heaviest(fan, 1, (-1, -2, -3)), heaviest(ring, 1, (1, 4, 4))
    ((8, (0, 2)), (7, (0, 1)), (0, ()), (4, (1,)))
    >>> len(fewest_lots(fan, 1)), fewest_holds(fan, 1, ((1,), (0, 2))), fewest_holds(fan, 1, ((0,), (1,), (2,))), strewn_lot(fan, 1)
    (2, True, False, (0, 1))
    >>> len(fewest_lots(round5, 1)), strewn_lot(round5, 1)
    (3, (0, 2))
    >>> vee = (3, ((0, 1, 1), (0, 0, 0), (0, 0, 0)))
    >>> keeping_count(vee), keeping_count(en), keeping_at(en, 4), keeping_place(en, (1, 0, 2, 3)), is_keeping(en, (0, 2, 1, 3))
    (2, 5, (1, 3, 0, 2), 2, False)
    >>> keeping_place(en, (2, 3, 1, 0))
    raises NotKeeping((0, 2))
    >>> keeping_count(ring)
    raises NotOrder((0, 1, 2))
    >>> mean_place(en, 0), mean_place(en, 1), mean_place(en, 2), mean_place(en, 3)
    ((4, 5), (2, 5), (13, 5), (11, 5))
    >>> mean_place(vee, 1), share_ahead(en, 0, 3), share_ahead(vee, 1, 0)
    ((3, 2), (4, 5), (0, 1))
    >>> chain_lot(en), layers(en), beside_lot(en), len(fewest_chains(en)), chains_hold(en, ((0, 2), (1, 3)))
    ((0, 2), ((0, 1), (2, 3)), (0, 1), 2, True)
    >>> layers((0, ())), chain_lot((0, ())), fewest_chains((0, ())), keeping_count((0, ())), keeping_at((0, ()), 0)
    ((), (), (), 1, ())
"""
PART_I = r"""
    >>> from piecetrees.renames import alike_count, behind, is_same, kinds, makers_hold, normal, renaming, round_naming
    >>> from piecetrees.renames import same_at, same_count, same_place, sames
    >>> pairs = (4, ((0, 1, 0, 0), (1, 0, 0, 0), (0, 0, 0, 1), (0, 0, 1, 0)))
    >>> renaming(fan, (3, ((0, 1, 1), (1, 0, 0), (1, 0, 0)))), renaming(line, ring), alike_count(fan), alike_count(line), alike_count(ring)
    ((1, 2, 0), None, 3, 6, 2)
    >>> round_naming(fan), round_naming(line), round_naming(ring), round_naming((2, ((0, 1), (2, 0))))
    ((0, 1, 2), (2, 1, 0), (0, 2, 1), (1, 0))
    >>> round_naming((3, ((0, 1, 1), (0, 0, 0), (0, 0, 0))))
    None
    >>> renaming(fan, pairs)
    raises Unfit()
    >>> same_count(fan), same_count(line), sames(ring), same_count(pairs), same_at(pairs, 1), same_place(pairs, (3, 2, 1, 0)), is_same(pairs, (0, 2, 1, 3))
    (2, 1, ((0, 1, 2), (1, 2, 0), (2, 0, 1)), 8, (0, 1, 3, 2), 7, False)
    >>> behind((1, 2, 0), (1, 2, 0)), same_count((8, ((0,) * 8,) * 8))
    ((2, 0, 1), 40320)
    >>> same_place(line, (1, 0, 2))
    raises NotSame((1, 0, 2))
    >>> kinds(fan), kinds(line), kinds(ring), kinds(pairs)
    (((2,), (0, 1)), ((0,), (1,), (2,)), ((0, 1, 2),), ((0, 1, 2, 3),))
    >>> makers_hold(ring, ((1, 2, 0),)), makers_hold(pairs, ((1, 0, 2, 3), (2, 3, 0, 1))), makers_hold(pairs, ((1, 0, 2, 3),)), makers_hold(line, ())
    (True, True, False, True)
    >>> normal(fan) == fan, normal(line) == turned(line), normal((2, ((0, 7), (3, 0))))
    (True, True, (2, ((0, 3), (7, 0))))
"""


class ExamplesFToI(ExampleCase):
    def check(self, text):
        self.assertGreaterEqual(text.count(">>> "), 3)
        self.check_examples(FAN_LINE_RING + SET_AHEAD + text)

    def test_abouts(self):
        self.check(ABOUTS)

    def test_part_g(self):
        self.check(PART_G)

    def test_part_h(self):
        self.check(PART_H)

    def test_part_i(self):
        self.check(PART_I)
