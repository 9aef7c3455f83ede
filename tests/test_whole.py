"""What holds over the whole program ([A2]), and what each part tells by the tree."""

import itertools
import math
import random

import plain
import plain_names
import plain_orders
import plain_webs
from helper import ErrorCase, small_tables
from piecetrees import numbers
from piecetrees.abouts import about, about_way, same_pairs
from piecetrees.arrows import clash
from piecetrees.boards import Board
from piecetrees.errors import HasTriangle, NoFormula, NotEven
from piecetrees.firm import first_firm, firm_lots, is_firm
from piecetrees.formulas import formula_of, has_formula, made_normal, table_told
from piecetrees.growing import grown, next_firm, stand
from piecetrees.knots import knots, pieces_of, strong
from piecetrees.looks import is_even, painted, part, renamed, turned
from piecetrees.pieces import is_piece, pieces, quotient, telling
from piecetrees.renames import alike_count, renaming, round_naming, same_count, sames
from piecetrees.rows import draw, draw_paper, drawn, rest, rows_of, orders_of
from piecetrees.together import mend_cost, mended, pair_classes, rows_table, stretches, together
from piecetrees.trees import table_of, tree_error, tree_of
from piecetrees.triangles import apart_look, built, looks_of, triangle
from piecetrees.turnings import classes_apart, turning, turning_count, turning_way, turnings


def many_tables(seed):
    """Tables of up to six things, of many kinds."""
    rng = random.Random(seed)
    found = [table for k in range(4) for size in range(7) for table in plain.drawn_tables(seed + k, size)]
    found += [plain_names.shuffled(rng, table)[0] for table in found[::3]] + small_tables(3, (0, 1))
    return found + [table for table in plain_names.wide_tables_of_names(seed) if table[0] == 6]


def knots_of(table):
    """The piece, the word, the looks and the table of the sons of each knot, those within ahead."""
    return [(piece, word, looks, sons, quotient(part(table, piece), [tuple(piece.index(x) for x in son) for son in sons]))
            for piece, word, looks, sons in knots(table)]


def are_alike(tree, other):
    """Whether two trees are alike, knot by knot, as [I6] tells."""
    if type(tree) is int or type(other) is int or () in (tree, other):
        return type(tree) is type(other) and (type(tree) is int or tree == other)
    (word, looks, sons), (word_too, looks_too, sons_too) = tree, other
    if word != word_too or len(sons) != len(sons_too) or (word != "firm" and looks != looks_too):
        return False
    if word == "line":
        return all(are_alike(one, two) for one, two in zip(sons, sons_too))
    for naming in itertools.permutations(range(len(sons))):
        right = word == "all" or plain_names.renamed((len(sons), looks), naming) == (len(sons), looks_too)
        if right and all(are_alike(sons[x], sons_too[naming[x]]) for x in range(len(sons))):
            return True
    return False


class Whole(ErrorCase):
    def test_pieces_and_trees(self):
        for table in many_tables(300):
            tree = tree_of(table)
            for lot in plain.lots(table[0]):
                self.assertIs(is_piece(table, lot), telling(table, lot) is None)
            self.assertIsNone(tree_error(table[0], tree))
            self.assertEqual(table_of(table[0], tree), table)
            self.assertEqual(pieces_of(table[0], tree), pieces(table))
            self.assertEqual(len(set(pieces(table))), len(pieces(table)))

    def test_firm_lots_grow(self):
        rng = random.Random(301)
        for table in many_tables(302)[::2]:
            for lot in firm_lots(table):
                for thing in [x for x in range(table[0]) if x not in lot]:
                    self.assertIn(stand(table, lot, thing)[0], ("firm", "alike", "like"))
                if is_firm(table):
                    self.assertEqual(next_firm(table, lot) is None, len(lot) == table[0])
                    self.assertEqual(grown(table, lot)[-1], tuple(range(table[0])))
        self.assertTrue(all(is_firm(plain.drawn_firm(rng, size)) for size in (3, 4, 5, 6)))

    def test_turnings(self):
        for web in plain_webs.small_webs()[::3] + plain_webs.wide_webs(303, 2):
            self.assertIs(turning(web) is None, clash(web) is not None)
            self.assertEqual(turning_count(web) > 0, clash(web) is None)
            if 0 < turning_count(web) <= 1000:
                self.assertEqual(len(turnings(web)), turning_count(web))
                order, other = turnings(web)[0], turnings(web)[-1]
                self.assertEqual(len(turning_way(web, order, other)), classes_apart(web, order, other))

    def test_draws_and_abouts(self):
        rng = random.Random(304)
        for web in plain_webs.small_webs()[::3] + plain_webs.wide_webs(305, 2):
            pair, paper = draw(web), draw_paper(web)
            self.assertIs(pair is None, paper is not None)
            if pair is not None:
                self.assertEqual(drawn(*pair), web)
                self.assertEqual(rows_of(*orders_of(*pair)), pair)
            else:
                self.assertEqual(paper, ("tied", clash(web)) if clash(web) else ("apart", clash(rest(web))))
        for order in plain_orders.small_orders() + plain_orders.wide_orders(306, 2):
            other = order
            for lot in rng.sample(pieces(order), 1) + [tuple(range(order[0]))]:
                other = about(other, lot) if is_piece(other, lot) else other
            self.assertIsNone(same_pairs(order, other))
            for lot in about_way(order, other):
                order = about(order, lot)
            self.assertEqual(order, other)

    def test_formulas(self):
        for table in many_tables(307):
            words = [knot[1] for knot in knots(table)]
            self.assertEqual(has_formula(table), "firm" not in words)
            self.assertEqual(first_firm(table) is None, "firm" not in words)
            if "firm" in words:
                self.check_error(NoFormula(first_firm(table)), formula_of, table)
            else:
                self.assertEqual(table_told(table[0], formula_of(table)), table)
                self.assertEqual(made_normal(table[0], formula_of(table)), formula_of(table))

    def test_fewest_lots_and_strewn_ones(self):
        for table in many_tables(308):
            for look in (0, 1):
                many, strewn = len(numbers.fewest_lots(table, look)), len(numbers.strewn_lot(table, look))
                self.assertGreaterEqual(many, strewn)
                if has_formula(table):
                    self.assertEqual(many, strewn)
                    self.assertEqual((many, strewn), (self.by_knots(table, look),) * 2)

    def by_knots(self, table, look):
        """How many things a strewn lot has, by the tree, where no knot is firm."""
        told = {(x,): 1 for x in range(table[0])}
        for piece, word, looks, sons, _ in knots_of(table):
            many = [told[son] for son in sons]
            told[piece] = max(many) if (word, looks) == ("all", (look,)) else sum(many)
        return told[tuple(range(table[0]))] if table[0] else 0

    def test_weights_by_the_tree(self):
        rng = random.Random(309)
        for table in many_tables(310):
            for look in (0, 1):
                weights = tuple(rng.choice((0, 1, 2, 5, 10 ** 30)) for _ in range(table[0]))
                told = {(x,): weights[x] for x in range(table[0])}
                for piece, word, looks, sons, inner in knots_of(table):
                    told[piece] = numbers.heaviest(inner, look, tuple(told[son] for son in sons))[0]
                    many = [told[son] for son in sons]
                    if word != "firm":
                        self.assertEqual(told[piece], sum(many) if (word, looks) == ("all", (look,)) else max(many))
                if table[0]:
                    self.assertEqual(numbers.heaviest(table, look, weights)[0], told[tuple(range(table[0]))])

    def test_rows_that_keep_an_order_by_the_tree(self):
        for table in plain_orders.small_orders() + [one for one in plain_orders.wide_orders(311, 4)]:
            told, mean, chain, beside = {(): 1}, {}, {(): 0}, {(): 0}
            for x in range(table[0]):
                told[x,], mean[(x,), x], chain[x,], beside[x,] = 1, (0, 1), 1, 1
            for piece, word, _, sons, inner in knots_of(table):
                told[piece] = math.prod(told[son] for son in sons)
                if word == "all":
                    told[piece] *= math.factorial(len(piece)) // math.prod(math.factorial(len(son)) for son in sons)
                if word == "firm":
                    lined = plain.by(len(piece), lambda at, to: self.in_lines(sons, inner, piece[at], piece[to]))
                    told[piece] *= numbers.keeping_count(lined)
                self.assertEqual(numbers.keeping_count(part(table, piece)), told[piece])
                if word != "firm":
                    chain[piece] = (sum if word == "line" else max)(chain[son] for son in sons)
                    beside[piece] = (max if word == "line" else sum)(beside[son] for son in sons)
                else:
                    chain[piece], beside[piece] = len(numbers.chain_lot(part(table, piece))), len(numbers.beside_lot(part(table, piece)))
                self.assertEqual(len(numbers.chain_lot(part(table, piece))), chain[piece])
                self.assertEqual(len(numbers.beside_lot(part(table, piece))), beside[piece])
                self.check_means(table, piece, word, sons)

    def in_lines(self, sons, inner, x, y):
        """How two things of a firm knot look in the order in which each son is put in by things one ahead of the other."""
        at, to = [next(k for k in range(len(sons)) if z in sons[k]) for z in (x, y)]
        return int(x < y) if at == to else inner[1][at][to]

    def check_means(self, table, piece, word, sons):
        for son in sons if word != "firm" else ():
            for x in son:
                top, whole = numbers.mean_place(part(table, son), son.index(x))
                if word == "line":
                    ahead = sum(len(one) for one in sons if one != son and table[1][one[0]][x] == 1)
                    wanted = (top + ahead * whole, whole)
                else:
                    wanted = ((top + whole) * (len(piece) + 1) - whole * (len(son) + 1), whole * (len(son) + 1))
                common = math.gcd(*wanted)
                told = numbers.mean_place(part(table, piece), piece.index(x))
                self.assertEqual(told, (wanted[0] // common, wanted[1] // common))

    def test_alike_tables(self):
        rng = random.Random(312)
        tables = [table for table in many_tables(313) if table[0] in (4, 5)]
        for table in tables:
            for other in [plain_names.shuffled(rng, table)[0], turned(table)] + rng.sample([one for one in tables if one[0] == table[0]], 4):
                self.assertIs(renaming(table, other) is not None, are_alike(tree_of(table), tree_of(other)))
            self.assertEqual(alike_count(table) * same_count(table), math.factorial(table[0]))

    def test_sames_by_the_tree(self):
        for table in many_tables(314):
            count = 1
            for piece, word, _, sons, inner in knots_of(table):
                parts = [part(table, son) for son in sons]
                alike = [[len(one) == len(two) and renaming(p, q) is not None for two, q in zip(sons, parts)] for one, p in zip(sons, parts)]
                if word == "all":
                    count *= math.prod(math.factorial(sum(row)) for row in {tuple(row) for row in alike})
                elif word == "firm":
                    count *= sum(all(alike[k][one[k]] for k in range(len(sons))) for one in plain_names.sames(inner))
            self.assertEqual(same_count(table), count)

    def test_what_sames_lead(self):
        rng = random.Random(315)
        for table in many_tables(316)[::4]:
            found = sames(table)
            self.assertEqual(sames(turned(table)), found)
            paints = dict(enumerate(rng.sample(range(100), 100)))
            self.assertEqual(sames(painted(table, paints)), found)
            words = {knot[0]: knot[1] for knot in knots(table)}
            for naming in rng.sample(found, min(3, len(found))):
                led = {lot: tuple(sorted(naming[x] for x in lot)) for lot in pieces(table)}
                self.assertEqual(sorted(led.values()), sorted(led))
                self.assertEqual({led[lot] for lot in strong(table)}, set(strong(table)))
                self.assertEqual({lot: words[led[lot]] for lot in words}, words)

    def test_line_knots_of_tables_alike_to_their_turned_ones(self):
        found = 0
        for table in many_tables(317) + [plain.by(6, lambda x, y: int(x // 2 < y // 2))]:
            if table[0] > 1 and tree_of(table)[0] == "line" and round_naming(table) is not None:
                sons = knots(table)[-1][3]
                for one, two in zip(sons, sons[::-1]):
                    self.assertIsNotNone(renaming(part(table, one), turned(part(table, two))) if len(one) == len(two) else None)
                found += 1
        self.assertGreater(found, 5)

    def test_triangles(self):
        rng = random.Random(318)
        for table in many_tables(319) + [plain.drawn_even(rng, size, range(3)) for size in (3, 4, 5, 6) for _ in range(10)]:
            if not is_even(table):
                self.assertRaises(NotEven, built, table)
                continue
            lot = triangle(table)
            firm = [looks for _, word, looks, _ in knots(table) if word == "firm"]
            self.assertEqual(lot is None, all(len({look for x, row in enumerate(rows) for y, look in enumerate(row) if x != y}) == 2 for rows in firm))
            three = [one for one in firm_lots(table) if len(one) == 3]
            self.assertEqual(lot, three[0] if three else None)
            if lot is not None:
                self.check_error(HasTriangle(lot), built, table)
            elif table[0] > 0:
                self.assertEqual(len(built(table)), 2)
                if len(looks_of(table)) > 2:
                    self.assertIsNotNone(apart_look(table))

    def test_together(self):
        rng = random.Random(320)
        for size in range(7):
            tables = plain.drawn_tables(321, size)
            for many in range(1, 7):
                some = tuple(rng.sample(tables, many))
                self.assertEqual(pieces(together(some)), tuple(lot for lot in plain.lots(size) if all(is_piece(table, lot) for table in some)))
                rows = tuple(tuple(rng.sample(range(size), size)) for _ in range(many))
                self.assertEqual(((),) + stretches(size, rows), pieces(rows_table(size, rows)))

    def test_lots_become_pieces(self):
        rng = random.Random(322)
        for table in [one for one in many_tables(323) if one[0] == 3]:
            for even in (False, True):
                lots = tuple(rng.sample(plain.lots(3), 2))
                looks = sorted({look for row in table[1] for look in row})
                found = [other for other in small_tables(3, looks[:3]) if all(is_piece(other, lot) for lot in lots) and (is_even(other) or not even)]
                cost = mend_cost(table, lots, even)
                made = mended(table, lots, even)
                told = [sum(table[1][x][y] != other[1][x][y] for x, y in itertools.permutations(range(3), 2)) for other in found + [made]]
                self.assertEqual((min(told), told[-1]), (cost, cost))
                self.assertEqual(sum(len(one) for one in pair_classes(3, lots, even)), 6)

    def test_edits_that_are_taken_back(self):
        for table in many_tables(324)[::5]:
            board = Board(table)
            board.turn(())
            before = (board.table, board.tree, board.version, len(board), list(board), str(board), [board.at(k) for k in range(2)])
            board.add((1,) * len(board), (0,) * len(board))
            board.rename(tuple(reversed(range(len(board)))))
            board.undo()
            board.undo()
            self.assertEqual((board.table, board.tree, board.version, len(board), list(board), str(board), [board.at(k) for k in range(2)]), before)
            self.assertEqual(board, Board(table))
            self.assertEqual([board.redo(), board.redo()], [2, 3])
