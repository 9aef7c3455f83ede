"""The examples of parts B, C and D, as the document prints them."""

from helper import FAN_LINE_RING, ExampleCase

PART_B = r"""
    >>> from piecetrees.pieces import between, growing, is_piece, least_piece, pieces, quotient, telling
    >>> telling(fan, (0, 2)), telling(fan, (0, 1)), telling(ring, (0, 1)), is_piece(line, (0, 2))
    ((1, 0, 2), None, (2, 0, 1), False)
    >>> growing(line, (0, 2)), least_piece(line, (0, 2)), growing(fan, (1, 2)), least_piece(fan, ())
    (((1, 0, 2),), (0, 1, 2), ((0, 1, 2),), ())
    >>> pieces(fan), pieces(line), len(pieces(ring))
    (((), (0,), (1,), (2,), (0, 1), (0, 1, 2)), ((), (0,), (1,), (2,), (0, 1), (1, 2), (0, 1, 2)), 5)
    >>> between(fan, (0, 1), (2,)), quotient(fan, ((2,), (0, 1)))
    ((1, 1), (2, ((0, 1), (1, 0))))
    >>> quotient(fan, ((0, 2), (1,)))
    raises NotPiece((0, 2))
"""
PART_C = r"""
    >>> from piecetrees.trees import parse_tree, piece_count, table_of, tree_error, tree_of, tree_text
    >>> from piecetrees.knots import knot_of, knots, piece_at, pieces_of, place_of, strong
    >>> tree_of(fan), tree_of(line)
    (('all', (1,), (('all', (0,), (0, 1)), 2)), ('line', (0, 1), (2, 1, 0)))
    >>> tree_of(ring)
    ('firm', ((0, 1, 0), (0, 0, 1), (1, 0, 0)), (0, 1, 2))
    >>> table_of(3, ('line', (0, 1), (2, 1, 0))) == line, tree_error(2, ('all', (0,), (1, 0))), tree_error(3, ('all', (0,), (0, ('all', (0,), (1, 2)))))
    (True, ('order', 0), ('same', 0))
    >>> strong(fan), knots(line)
    (((0,), (1,), (2,), (0, 1), (0, 1, 2)), (((0, 1, 2), 'line', (0, 1), ((2,), (1,), (0,))),))
    >>> knot_of(fan, (0, 1)), knot_of(fan, (1, 2))
    ((0, 1), (0, 1, 2))
    >>> piece_count(3, tree_of(fan)), pieces_of(3, tree_of(line)) == pieces(line), piece_at(3, tree_of(line), 5)
    (6, True, (1, 2))
    >>> place_of(3, tree_of(fan), (0, 1)), place_of(3, tree_of(line), ())
    (4, 0)
    >>> place_of(3, tree_of(fan), (0, 2))
    raises NotPiece((0, 2))
    >>> tree_text(3, tree_of(fan)), tree_text(3, tree_of(ring))
    ('(all 1: (all 0: 0 1) 2)', '(firm - 1 0/0 - 1/1 0 -: 0 1 2)')
    >>> parse_tree(3, '(line 0 1: 2 1 0)') == tree_of(line)
    True
    >>> parse_tree(2, '(line 1 0: 0 1)')
    raises NotTree(('looks', 0))
    >>> parse_tree(2, '(all 1 0: 0 1)')
    raises NotTree('form')
"""
PART_D = r"""
    >>> from piecetrees.firm import critical_word, course_of, firm_lots, first_firm, half_web, is_critical, is_firm
    >>> path = (4, ((0, 1, 0, 0), (1, 0, 1, 0), (0, 1, 0, 1), (0, 0, 1, 0)))
    >>> long = (5, ((0, 1, 0, 0, 0), (1, 0, 1, 0, 0), (0, 1, 0, 1, 0), (0, 0, 1, 0, 1), (0, 0, 0, 1, 0)))
    >>> is_firm(path), is_firm(ring), is_firm((2, ((0, 1), (0, 0)))), firm_lots(long), first_firm(ring)
    (True, True, False, ((0, 1, 2, 3), (1, 2, 3, 4), (0, 1, 2, 3, 4)), (0, 1, 2))
    >>> first_firm((3, ((0, 1, 1), (0, 0, 1), (0, 0, 0))))
    None
    >>> from piecetrees.growing import grown, grown_holds, leavable, leavable_pair, next_firm, spared, stand
    >>> half = half_web(6)
    >>> stand(long, (0, 1, 2, 3), 4), stand(half, (0, 1, 3, 4), 2), stand(half, (0, 1, 3, 4), 5)
    (('firm', None), ('alike', None), ('like', 4))
    >>> next_firm(long, (0, 1, 2, 3)), next_firm(half, (0, 1, 3, 4)), next_firm(path, (0, 1, 2, 3))
    ((4,), (2, 5), None)
    >>> stand(half, (0, 1, 2), 3)
    raises NotFirm((0, 1, 2))
    >>> grown(long, (1, 2, 3, 4)), grown_holds(half, (0, 1, 3, 4), ((0, 1, 3, 4), (0, 1, 2, 3, 4, 5))), grown_holds(half, (0, 1, 3, 4), ((0, 1, 3, 4),))
    (((1, 2, 3, 4), (0, 1, 2, 3, 4)), True, False)
    >>> grown((3, ((0, 0, 1), (0, 0, 1), (1, 1, 0))), (0, 1, 2))
    raises NotFirm((0, 1, 2))
    >>> spared(long), leavable(long), leavable_pair(long), spared(half), leavable(half)
    ((0, 4), (0,), None, (), (0, 3))
    >>> leavable(path), leavable(ring)
    (None, None)
    >>> half_web(4), course_of("bent", 5)
    ((4, ((0, 0, 1, 1), (0, 0, 0, 1), (1, 0, 0, 0), (1, 1, 0, 0))), (5, ((0, 1, 1, 0, 0), (0, 0, 1, 1, 0), (0, 0, 0, 1, 1), (1, 0, 0, 0, 0), (1, 1, 0, 1, 0))))
    >>> course_of("comb", 5), course_of("comb", 3) == ring
    ((5, ((0, 1, 1, 1, 0), (0, 0, 1, 1, 1), (0, 0, 0, 1, 0), (0, 0, 0, 0, 1), (1, 0, 1, 0, 0))), True)
    >>> is_critical(path), is_critical(long), critical_word(path), critical_word(half), critical_word(ring), critical_word(long)
    (True, False, 'half', 'half', 'ring', None)
"""


class ExamplesBToD(ExampleCase):
    def test_part_b(self):
        self.check_examples(FAN_LINE_RING + PART_B)

    def test_part_c(self):
        # Part C goes on with the names of part B.
        self.check_examples(FAN_LINE_RING + PART_B + PART_C)

    def test_part_d(self):
        self.check_examples(FAN_LINE_RING + PART_D)
