"""The whole program: promises 1 to 3, from sayings to rows and chains, and from each chain to all that is read off it."""

import unittest
from random import Random

from middlesay.chains import Chain, comes_to
from middlesay.chaintexts import read_chain, read_clause, read_trace, read_tree, show_trace, show_tree
from middlesay.crossing import from_tree, sayings_of, to_tree
from middlesay.deciding import decided, given_by
from middlesay.desk import Desk
from middlesay.errors import NoStep, TooGreat
from middlesay.forgetting import strongest, weakest
from middlesay.middles import Middle
from middlesay.papers import papers, stronger
from middlesay.parts import Parts
from middlesay.sayings import holds, names_of
from middlesay.search import search
from middlesay.sequents import bound_of, is_stair, sequent, steps_in, uncut
from middlesay.splitting import split
from middlesay.steptexts import show_clause
from middlesay.traces import chain_of_trace, first_wrong, needed, trace_of
from middlesay.trees import asks, chain_of_tree, is_right, tree_of
from middlesay.turning import joined, lightened, put_in, shared, trimmed
from middlesay.unfolding import is_tree_chain, regular, unfolded
from tests.chaining import meetings_in, names_of_clauses, pigeons, some_chains, some_clashes, some_clauses
from tests.helping import rows_of, some_sayings
from tests.siding import MARKS, some_sides
from tests.stairing import is_plain_stair, steps_of
from tests.test_crossing import with_words


def some_asked():
    """Sayings of two sides, of several kinds."""
    for number in range(120):
        chance = Random(number)
        names = list("abcdefg")[:1 + number % 7]
        yield (some_sayings(number, chance.randint(0, 4), names, 4),
               some_sayings(number + 5000, chance.randint(0, 4), names, 4))


def kinds_of(told):
    """A Chain of the empty clause and what it is turned to."""
    yield told
    yield trimmed(told)
    yield shared(told)
    yield lightened(told)
    yield unfolded(told, most=10 ** 6)
    yield regular(unfolded(told, most=10 ** 6))
    yield chain_of_tree(tree_of(told))
    if trace_of(told):
        yield chain_of_trace(trace_of(told), told.givens())
    yield search(told.givens())[1]
    yield read_chain(str(told))


class Whole(unittest.TestCase):

    def test_a_row_or_a_chain(self):
        words = set()
        for ones, others in some_asked():
            told = decided(ones, others)
            words.add(told[0])
            if told[0] == "row":
                self.assertTrue(all(holds(saying, told[1]) for saying in ones + others))
                continue
            _, one, other, paper = told
            self.assertTrue(comes_to(paper, one + other, ()))
            self.assertEqual("clash", decided(others, ones)[0])
            for way in MARKS:
                saying = Middle(paper, one, other, way=way).saying()
                both = [{name for held in side for name in names_of(held)} for side in (ones, others)]
                self.assertLessEqual(set(names_of(saying)), both[0] & both[1])
                self.assertEqual("clash", decided(ones, [("not", saying)])[0])
                self.assertEqual("clash", decided([saying], others)[0])
                self.assertEqual("chain", given_by(ones, saying)[0])
        self.assertEqual({"row", "clash"}, words)

    def test_the_judge_lets_by_no_chain_of_what_doesnt_follow(self):
        for number in range(2000):
            chance = Random(number)
            rows = some_clauses(chance, list("abc"), 6, least=0)
            told = [("given", row) for row in chance.sample(rows, min(3, len(rows)))]
            for _ in range(4):
                told.append(("met", chance.randint(0, 5), chance.randint(0, 5), chance.choice("abc")))
            try:
                paper = Chain(told)
            except NoStep as refused:
                if not refused.step:
                    continue
                paper = Chain(told[:refused.step])
            for goal in [(), *some_clauses(chance, list("abc"), 5)]:
                if comes_to(paper, rows, goal):
                    self.assertTrue(all(any(row[name] is yes for name, yes in goal) for row in self.models(rows, "abc")))

    def models(self, rows, names):
        return [row for row in rows_of(names)
                if all(any(row[name] is yes for name, yes in held) for held in rows)]

    def test_middles_of_each_labelling_and_their_papers(self):
        for told, one, other, way, marks in some_sides():
            names = names_of_clauses(told.givens())
            ours, theirs = [set(names_of_clauses([row for row in told.givens() if (row in one) == yes]))
                            for yes in (True, False)]
            middles = [Middle(told, one, other, way=mark) for mark in MARKS]
            some = Middle(told, one, other, way=way, marks=marks)
            strong, weak = strongest(one, other), weakest(one, other)
            for middle in middles + [some]:
                self.assertEqual(len(told), len(middle))
                self.assertLessEqual(set(middle.names()), ours & theirs)
                first, second = papers(middle)
                last = f"m{len(middle) - 1}"
                self.assertTrue(comes_to(first, one + middle.clauses(), ((last, True),)))
                self.assertTrue(comes_to(second, other + middle.clauses(), ((last, False),)))
                for low, high in ((strong, middle.saying()), (middle.saying(), weak)):
                    self.assertEqual("stair", sequent([low], [high], most=10 ** 6)[0])
            for low, high in ((middles[0], some), (some, middles[2]), (middles[0], middles[1])):
                goal = ((f"m{len(told) - 1}", False), (f"n{len(told) - 1}", True))
                self.assertTrue(comes_to(stronger(low, high), low.clauses() + high.clauses("n"), goal))
                self.assertEqual(0, low.table(names) & ~high.table(names))

    def test_chains_turned_and_back(self):
        for told in some_clashes():
            rows = told.givens()
            for turned in kinds_of(told):
                self.assertTrue(comes_to(turned, rows, ()))
                self.assertTrue(is_tree_chain(unfolded(turned, most=10 ** 6)))
                tree = tree_of(turned)
                self.assertTrue(is_right(tree, rows))
                self.assertEqual(tree, read_tree(show_tree(tree)))
                self.assertLessEqual(meetings_in(chain_of_tree(tree)), asks(tree))
                trace = trace_of(turned)
                if trace:
                    self.assertIsNone(first_wrong(trace, rows))
                    self.assertEqual(trace, read_trace(show_trace(trace)))
                    kept = [trace[number] for number in needed(trace, rows)]
                    self.assertTrue(comes_to(chain_of_trace(kept, rows), rows, ()))
                middle = Middle(turned, rows[::2], rows[1::2])
                self.assertTrue(comes_to(papers(middle)[0], rows[::2] + middle.clauses(), ((f"m{len(turned) - 1}", True),)))

    def test_trees_stairs_and_back(self):
        for told in some_clashes():
            rows = told.givens()
            sayings = sayings_of(rows)
            stair = from_tree(tree_of(told), rows)
            self.assertIs(is_stair(sayings, [], stair), True)
            kinds = [stair, sequent(sayings, [])[1]]
            try:
                kinds.append(uncut(sayings, [], stair))
                self.assertLessEqual(steps_in(kinds[2]), bound_of(stair))
            except TooGreat:
                pass
            for kind in kinds:
                tree = to_tree(rows, kind)
                self.assertTrue(is_right(tree, rows))
                self.assertTrue(comes_to(chain_of_tree(tree), rows, ()))
            for free in kinds[1:]:
                half = len(sayings) // 2
                saying, one, other = split((sayings[:half], []), (sayings[half:], []), free)
                self.assertTrue(is_plain_stair(sayings[:half], [saying], one))
                self.assertTrue(is_plain_stair([saying, *sayings[half:]], [], other))
                self.assertNotIn("cut", steps_of(one) + steps_of(other))

    def test_texts_and_back(self):
        for told in some_chains():
            self.assertEqual(told, read_chain(str(told)))
            self.assertEqual(told.last(), read_clause(show_clause(told.last())))

    def test_parts_of_what_is_decided(self):
        for ones, others in some_asked():
            told = decided(ones, others)
            if told[0] == "clash":
                _, one, other, paper = told
                hung = Parts([other, one], [None, 0], paper)
                own = [row for row in one if row not in other]
                self.assertEqual(Middle(paper, own, other, way="other").knots(), hung.middle(1).knots())
                last = len(paper) - 1
                self.assertTrue(comes_to(hung.paper(1), one + hung.clauses(1), ((f"pb{last}", True),)))
                goal = ((f"pa{last}", True), (f"pb{last}", False))
                self.assertTrue(comes_to(hung.paper(0), other + hung.clauses(0) + hung.clauses(1), goal))

    def test_a_desk_and_what_is_decided(self):
        for ones, others in some_asked():
            desk = Desk()
            desk.several([("put", f"{side}{'abcd'[place]}", side, saying)
                          for side, sayings in (("one", ones), ("other", others))
                          for place, saying in enumerate(sayings)])
            told = decided(ones, others)
            self.assertEqual(told[0] == "row", desk.clash() is None)
            if told[0] == "clash":
                self.assertEqual("chain", given_by(ones, desk.middle())[0])
                self.assertEqual("clash", decided([desk.middle()], others)[0])
            else:
                self.assertTrue(all(holds(saying, desk.truth()) for saying in ones + others))

    def test_great_ones(self):
        rows = with_words(pigeons(4, 3))
        told = search(rows)[1]
        for turned in kinds_of(told):
            self.assertTrue(comes_to(turned, rows, ()))
        tree = tree_of(told)
        self.assertTrue(is_right(to_tree(rows, from_tree(tree, rows)), rows))
        desk = Desk()
        for number, saying in enumerate(sayings_of(rows)[:26]):
            if len(names_of_clauses(rows[:number + 1])) <= 9:
                desk.put("x" + "abcdefghijklmnopqrstuvwxyz"[number], "one", saying)
        self.assertIsNone(desk.clash())

    def test_joined_and_put_in(self):
        for told in some_clashes()[:60]:
            steps = told.steps()
            if steps[-1][0] == "met":
                _, i, j, name = steps[-1]
                both = joined(trimmed(Chain(steps[:i + 1])), trimmed(Chain(steps[:j + 1])), name)
                self.assertTrue(comes_to(both, told.givens(), ()))
                self.assertTrue(comes_to(put_in(told, Chain([("given", told.givens()[0])])), told.givens(), ()))


if __name__ == "__main__":
    unittest.main()
