"""The examples of parts E and F, as the document prints them."""

from helper import FAN_LINE_RING, ExampleCase

PATH = r"""
    >>> path = (4, ((0, 1, 0, 0), (1, 0, 1, 0), (0, 1, 0, 1), (0, 0, 1, 0)))
    >>> from piecetrees.looks import turned
"""
PART_E = r"""
    >>> from piecetrees.arrows import arrow_classes, chain, clash, class_knot, forced
    >>> round5 = (5, ((0, 1, 0, 0, 1), (1, 0, 1, 0, 0), (0, 1, 0, 1, 0), (0, 0, 1, 0, 1), (1, 0, 0, 1, 0)))
    >>> three = (3, ((0, 1, 1), (1, 0, 1), (1, 1, 0)))
    >>> forced(path, (0, 1)), forced(path, (2, 1)), arrow_classes(path)
    (((2, 1),), ((0, 1), (2, 3)), (((0, 1), (2, 1), (2, 3)), ((1, 0), (1, 2), (3, 2))))
    >>> chain(path, (0, 1), (2, 3)), chain(path, (0, 1), (1, 0)), len(arrow_classes(three))
    (((0, 1), (2, 1), (2, 3)), None, 6)
    >>> clash(round5), clash(path)
    (((0, 1), (0, 4), (3, 4), (3, 2), (1, 2), (1, 0)), None)
    >>> class_knot(fan, (0, 2)), class_knot(path, (1, 2))
    (((0, 1, 2), 'all', ((0, 1), (2,))), ((0, 1, 2, 3), 'firm', ((0,), (1,), (2,), (3,))))
    >>> from piecetrees.turnings import class_turned, classes_apart, loose, nth_turning, turning_count, turning_error, turning_place, turning_way_holds, turnings
    >>> turning_count(path), turning_count(three), turning_count(round5), turning_count((8, ((0,) * 8,) * 8))
    (2, 6, 0, 1)
    >>> turning_error(three, line), turning_error(fan, line), turning_error(path, path), turning_error(three, ring)
    (None, ('tie', 0, 1), ('tie', 0, 1), ('on', 0, 1, 2))
    >>> turnings(path) == ((4, ((0, 0, 0, 0), (1, 0, 1, 0), (0, 0, 0, 0), (0, 0, 1, 0))), (4, ((0, 1, 0, 0), (0, 0, 0, 0), (0, 1, 0, 1), (0, 0, 0, 0))))
    True
    >>> nth_turning(three, 0) == turned(line), turning_place(three, line)
    (True, 5)
    >>> loose(three, line), class_turned(three, line, (0, 1)), classes_apart(three, line, turned(line))
    (((0, 1), (1, 2)), (3, ((0, 0, 1), (1, 0, 1), (0, 0, 0))), 3)
    >>> turning_way_holds(three, line, turned(line), ((0, 1), (0, 2), (1, 2))), turning_way_holds(three, line, turned(line), ((1, 2), (0, 1), (0, 2)))
    (True, False)
    >>> class_turned(three, line, (0, 2))
    raises NotLoose((0, 2))
"""
PART_F = r"""
    >>> from piecetrees.rows import draw, draw_count, draw_holds, draw_paper, draw_place, drawn, is_row, nth_draw, orders_of, rest, rows_of, twisted
    >>> drawn((0, 1, 2, 3), (1, 3, 0, 2))
    (4, ((0, 1, 0, 1), (1, 0, 0, 0), (0, 0, 0, 1), (1, 0, 1, 0)))
    >>> orders_of((0, 1, 2), (1, 0, 2))
    ((3, ((0, 1, 0), (0, 0, 0), (0, 0, 0))), (3, ((0, 0, 1), (0, 0, 1), (0, 0, 0))))
    >>> rows_of((3, ((0, 1, 0), (0, 0, 0), (0, 0, 0))), (3, ((0, 0, 1), (0, 0, 1), (0, 0, 0))))
    ((0, 1, 2), (1, 0, 2))
    >>> rest(fan), is_row(3, (0, 2, 1)), is_row(2, (0, 2))
    ((3, ((0, 1, 0), (1, 0, 0), (0, 0, 0))), True, False)
    >>> draw_holds(path, ((0, 1, 2, 3), (1, 0, 3, 2))), draw_paper(path), draw_paper(round5)
    (False, None, ('tied', ((0, 1), (0, 4), (3, 4), (3, 2), (1, 2), (1, 0))))
    >>> draw_holds(path, ((0, 2, 1, 3), (1, 0, 3, 2)))
    True
    >>> draw_count(path), draw_count(three), draw_count(round5), nth_draw(three, 0), draw_place(three, (2, 1, 0), (0, 1, 2))
    (4, 6, 0, ((0, 1, 2), (2, 1, 0)), 5)
    >>> twisted((0, 1, 2, 3), (1, 3, 0, 2)), twisted((0, 1, 2, 3), (3, 1, 0, 2)), twisted((3, 1, 0, 2), (0, 1, 2, 3))
    ((0, 1, 2, 3), None, None)
"""


class ExamplesEAndF(ExampleCase):
    def test_part_e(self):
        self.check_examples(FAN_LINE_RING + PATH + PART_E)

    def test_part_f(self):
        # Part F goes on with the names of part E.
        self.check_examples(FAN_LINE_RING + PATH + PART_E + PART_F)
