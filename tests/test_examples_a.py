"""The examples of part A, as the document prints them."""

from helper import ExampleCase

PART_A = r"""
    >>> from piecetrees.looks import is_course, is_even, is_order, is_web, painted, part, put_in, renamed, table_error, turned
    >>> from piecetrees.texts import parse_table, table_text
    >>> fan, line, ring = (3, ((0, 0, 1), (0, 0, 1), (1, 1, 0))), (3, ((0, 1, 1), (0, 0, 1), (0, 0, 0))), (3, ((0, 1, 0), (0, 0, 1), (1, 0, 0)))
    >>> is_web(fan), is_order(line), is_course(line), is_order(ring), is_course(ring), is_even(line)
    (True, True, True, False, True, False)
    >>> table_error((2, ((0, 1), (1, 2, 0)))), table_error((2, ((0, 100), (0, 0)))), table_error((1, ((1,),)))
    (1, (0, 1), (0, 0))
    >>> part(fan, (0, 2)), turned(line)
    ((2, ((0, 1), (1, 0))), (3, ((0, 0, 0), (1, 0, 0), (1, 1, 0))))
    >>> renamed(line, (2, 0, 1)), painted(fan, {0: 4, 1: 7})
    ((3, ((0, 1, 0), (0, 0, 0), (1, 1, 0))), (3, ((0, 4, 7), (4, 0, 7), (7, 7, 0))))
    >>> put_in((2, ((0, 1), (1, 0))), 0, (2, ((0, 0), (0, 0)))) == fan, put_in(fan, 2, (0, ()))
    (True, (2, ((0, 0), (0, 0))))
    >>> table_text(fan)
    '3\n- 0 1\n0 - 1\n1 1 -'
    >>> parse_table('2\n- 7\n07 -')
    raises BadText(2)
"""


class PartAExamples(ExampleCase):
    def test_examples(self):
        self.check_examples(PART_A)
