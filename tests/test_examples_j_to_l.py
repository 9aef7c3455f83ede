"""The examples of parts J, K and L, as the document prints them."""

from helper import FAN_LINE_RING, ExampleCase

SET_AHEAD = r"""
    >>> from piecetrees.looks import turned
    >>> from piecetrees.pieces import pieces
    >>> from piecetrees.trees import tree_of
"""
PART_J = r"""
    >>> from piecetrees.triangles import apart_look, built, built_holds, looks_of, mend_count, mended_even, triangle, triangle_count
    >>> pale = (4, ((0, 1, 2, 2), (1, 0, 2, 2), (2, 2, 0, 3), (2, 2, 3, 0)))
    >>> odd = (4, ((0, 1, 2, 1), (1, 0, 3, 1), (2, 3, 0, 1), (1, 1, 1, 0)))
    >>> looks_of(pale), triangle(pale), triangle(odd), triangle_count(odd), triangle((1, ((0,),)))
    ((1, 2, 3), None, (0, 1, 2), 1, None)
    >>> triangle((2, ((0, 1), (0, 0))))
    raises NotEven((0, 1))
    >>> apart_look(pale), apart_look((2, ((0, 5), (5, 0)))), apart_look((4, ((0, 1, 0, 0), (1, 0, 1, 0), (0, 1, 0, 1), (0, 0, 1, 0))))
    (1, None, None)
    >>> built_holds(pale, ((0, 1, 2, 3), ((0, (2, ((0, 2), (2, 0)))), (0, (2, ((0, 1), (1, 0)))), (2, (2, ((0, 3), (3, 0)))))))
    True
    >>> built_holds(pale, ((0, 1, 2, 3), ((0, pale),))), built_holds((1, ((0,),)), ((0,), ()))
    (False, True)
    >>> built(odd)
    raises HasTriangle((0, 1, 2))
    >>> mend_count(pale), mend_count(odd), mended_even((3, ((0, 1, 2), (1, 0, 3), (2, 3, 0))))
    (0, 1, (3, ((0, 1, 1), (1, 0, 3), (1, 3, 0))))
"""
PART_K = r"""
    >>> from piecetrees.together import both, is_stretch, line_of, lone, mend_cost, mended_holds, pair_classes, parting_piece, rows_table, shared_rounds, stretches, together, tree_of_both
    >>> both(fan, line)
    (3, ((0, 1, 3), (0, 0, 3), (2, 2, 0)))
    >>> pieces(both(fan, line)), len(pieces(both(fan, ring))), together((fan,))
    (((), (0,), (1,), (2,), (0, 1), (0, 1, 2)), 5, (3, ((0, 0, 1), (0, 0, 1), (1, 1, 0))))
    >>> tree_of_both(3, tree_of(fan), tree_of(line))
    ('line', (2, 3), (2, ('line', (0, 1), (1, 0))))
    >>> lone(fan, line), parting_piece(fan, line), parting_piece(line, turned(line))
    (((), ((1, 2),)), (1, 2), None)
    >>> shared_rounds(fan, line, (1, 2)), shared_rounds(fan, line, (0, 1)), shared_rounds(line, fan, (1, 2))
    (((1, 2), (0, 1, 2)), ((0, 1),), ((1, 2), (0, 1, 2)))
    >>> line_of((1, 0, 2)), rows_table(3, ((0, 1, 2), (1, 0, 2)))
    ((3, ((0, 0, 1), (1, 0, 1), (0, 0, 0))), (3, ((0, 2, 3), (1, 0, 3), (0, 0, 0))))
    >>> stretches(3, ((0, 1, 2), (1, 0, 2))), stretches(4, ((0, 1, 2, 3), (1, 3, 0, 2)))
    (((0,), (1,), (2,), (0, 1), (0, 1, 2)), ((0,), (1,), (2,), (3,), (0, 1, 2, 3)))
    >>> is_stretch(((0, 1, 2), (1, 0, 2)), (0, 1)), is_stretch(((0, 1, 2),), ())
    (True, False)
    >>> pair_classes(3, ((0, 2),), False)
    (((0, 1), (2, 1)), ((0, 2),), ((1, 0), (1, 2)), ((2, 0),))
    >>> mend_cost(line, ((0, 2),), False), mend_cost(fan, ((1, 2),), True), mend_cost(fan, ((0, 1),), True), mend_cost(ring, (), False)
    (2, 2, 0, 0)
    >>> mended_holds(line, ((0, 2),), False, (3, ((0, 1, 1), (0, 0, 0), (0, 1, 0)))), mended_holds(line, ((0, 2),), False, line), mended_holds(fan, ((1, 2),), True, (3, ((0, 0, 0), (0, 0, 1), (0, 1, 0))))
    (True, False, True)
"""
PART_L = r"""
    >>> from piecetrees.boards import Board, KeptBoard
    >>> from piecetrees.shells import Shell
    >>> b = Board(fan)
    >>> [b.add((1, 1, 0), (1, 1, 0)), b.tree, b.news(), b.paint(0, 3, 5), b.undo(), len(b), (0, 1) in b, b.piece((0, 2))]
    [1, ('all', (1,), (('all', (0,), (0, 1)), ('all', (0,), (2, 3)))), (((0, 1, 2),), ((3,), (2, 3), (0, 1, 2, 3))), 2, 1, 4, True, (0, 1, 2, 3)]
    >>> b.batch((("drop", (3,)), ("drop", (7,))))
    raises Rejected(1)
    >>> KeptBoard(fan)
    raises Split((0, 1))
    >>> s = Shell()
    >>> [s.say("tree"), s.say("new 2"), s.say("web 1 1"), s.say("tree"), s.say("knot 0 2"), s.say("piece 1 2"), s.say("turn 0 2"), s.say("look 2 0"), s.say("undo"), s.say("pieces")]
    ['no board', 'ok', 'version 1', '(all 1: (all 0: 0 1) 2)', 'all', '0 1 2', 'no NotPiece', '1', 'version 0', '4']
"""


class ExamplesJToL(ExampleCase):
    def check(self, text):
        self.assertGreaterEqual(text.count(">>> "), 3)
        self.check_examples(FAN_LINE_RING + SET_AHEAD + text)

    def test_part_j(self):
        self.check(PART_J)

    def test_part_k(self):
        self.check(PART_K)

    def test_part_l(self):
        self.check(PART_L)
