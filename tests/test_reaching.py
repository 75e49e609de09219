"""Machines of few names: promise 32, and 3 as far as it speaks of them."""

import unittest
from random import Random

from middlesay.chains import Chain, comes_to
from middlesay.deciding import given_by
from middlesay.errors import NoName
from middlesay.reaching import reached
from middlesay.sayings import is_saying
from middlesay.sayingtexts import read_saying
from tests.helping import A, B, NO, YES, evenly, nots, plain_names, plain_truth, rows_of, some_sayings

# Two names count from nought to three, and stay there.
COUNT = "(an is not a or a and b) and (bn is a or b)"


def then(saying):
    if saying[0] == "name":
        return ("name", saying[1] + "n")
    return (saying[0], *[then(part) for part in saying[1:]])


def steps_to(step, here, there):
    return plain_truth(step, {**here, **{f"{name}n": yes for name, yes in there.items()}})


def least_run(names, begin, step, bad):
    """How many rows a shortest run has; None where there is none."""
    rows = rows_of(names)
    now = [row for row in rows if plain_truth(begin, row)]
    seen = list(now)
    count = 1
    while now:
        if any(plain_truth(bad, row) for row in now):
            return count
        now = [row for row in rows if row not in seen and any(steps_to(step, here, row) for here in now)]
        seen += now
        count += 1
    return None


class Told(unittest.TestCase):

    def assert_reached(self, names, begin, step, bad, **more):
        kept = list(names)
        told = reached(names, begin, step, bad, **more)
        self.assertEqual(kept, names)
        self.assertIs(tuple, type(told))
        self.assertEqual(told, reached(names, begin, step, bad, **more))
        least = least_run(names, begin, step, bad)
        if least is None:
            self.assert_kept(told, names, begin, step, bad)
        else:
            word, rows = told
            self.assertEqual("run", word)
            self.assertEqual(least, len(rows))
            for row in rows:
                self.assertEqual(sorted(names), sorted(row))
                self.assertTrue(all(type(yes) is bool for yes in row.values()))
            self.assertTrue(plain_truth(begin, rows[0]))
            self.assertTrue(plain_truth(bad, rows[-1]))
            self.assertTrue(all(steps_to(step, here, there) for here, there in zip(rows, rows[1:])))
        return told

    def assert_kept(self, told, names, begin, step, bad):
        word, saying, chains, rounds = told
        self.assertEqual("kept", word)
        self.assertIs(tuple, type(chains))
        self.assertIs(list, type(rounds))
        self.assertEqual((given_by([begin], saying), given_by([saying, step], then(saying)),
                          given_by([saying], ("not", bad))), chains)
        for answer, clauses, paper in chains:
            self.assertEqual("chain", answer)
            self.assertIs(Chain, type(paper))
            self.assertTrue(comes_to(paper, clauses, ()))
        self.assertEqual((begin, saying), (rounds[0], rounds[-1]))
        for held in rounds:
            self.assertIs(is_saying(held), True)
            self.assertLessEqual(plain_names(held), set(names))
        for held, behind in zip(rounds, rounds[1:]):
            self.assertEqual("chain", given_by([held], behind)[0])
            self.assertEqual("chain", given_by([held, step], then(behind))[0])

    def assert_no_name(self, lacking, names, begin, step, bad):
        with self.assertRaises(NoName) as caught:
            reached(names, *[read_saying(text) for text in (begin, step, bad)])
        self.assertEqual(lacking, caught.exception.name)
        self.assertIsInstance(caught.exception, KeyError)


class Reached(Told):

    def test_counting(self):
        begin, step = read_saying("not a and not b"), read_saying(COUNT)
        word, rows = self.assert_reached(["a", "b"], begin, step, read_saying("a and b"))
        self.assertEqual([0, 1, 2, 3], [row["a"] + 2 * row["b"] for row in rows])
        rows = self.assert_reached(["b", "a"], begin, step, read_saying("b and not a"))[1]
        self.assertEqual(3, len(rows))
        self.assertEqual(2, len(self.assert_reached(["a", "b"], begin, step, read_saying("a or b"))[1]))

    def test_kept(self):
        told = self.assert_reached(["a", "b"], read_saying("a and b"), read_saying(COUNT), read_saying("not a"))
        self.assertEqual("kept", told[0])
        told = self.assert_reached(["a"], A, read_saying("an is a"), ("not", A))
        self.assertEqual((A, [A]), (told[1], told[3]))
        step = read_saying("(an gives b) and (bn gives b)")
        told = self.assert_reached(["a", "b"], read_saying("a and not b"), step, read_saying("b"))
        self.assertEqual(2, len(told[3]))

    def test_a_run_of_one_row(self):
        self.assertEqual(("run", [{"a": True}]), self.assert_reached(["a"], A, NO, A))
        self.assertEqual(1, len(self.assert_reached(["a", "b"], YES, read_saying("an is a"), B)[1]))

    def test_yes_and_no(self):
        for names in (["a"], ["b", "a"], ["c", "a", "b"], ["d", "c", "b", "a"]):
            for begin in (YES, NO, A):
                for step in (YES, NO, ("name", "an")):
                    for bad in (YES, NO, ("not", A)):
                        told = self.assert_reached(names, begin, step, bad)
                        self.assertEqual("kept" if NO in (begin, bad) else told[0], told[0])

    def test_machines_of_chance(self):
        told = {"run": 0, "kept": 0}
        for number in range(500):
            chance = Random(number)
            names = list("dbca")[:1 + number % 4]
            begin, bad = [("and", *some_sayings(chance.randrange(10 ** 6), 2, names, 4)) for _ in range(2)]
            step = ("and", *some_sayings(chance.randrange(10 ** 6), 2, names + [name + "n" for name in names], 4))
            order = chance.choice([(), ("a", "b"), ("c", "x", "c", "d"), ("m0", "an", "b")])
            told[self.assert_reached(names, begin, step, bad, order=order)[0]] += 1
        self.assertLess(50, min(told.values()))

    def test_sixteen_rows_one_behind_the_other(self):
        names = ["d", "c", "b", "a"]
        step = YES
        for number, name in enumerate(names):
            carried = YES
            for other in names[:number]:
                carried = ("and", carried, ("name", other))
            step = ("and", step, ("same", ("name", name + "n"), ("not", ("same", ("name", name), carried))))
        none = read_saying("not a and not b and not c and not d")
        self.assertEqual(16, len(self.assert_reached(names, none, step, read_saying("a and b and c and d"))[1]))
        odd = ("and", step, read_saying("not (a and b and c)"))
        told = self.assert_reached(names, none, odd, read_saying("a and b and c and d"))
        self.assertEqual("kept", told[0])
        self.assertLess(10, len(told[3]))

    def test_great_sayings(self):
        great = evenly("or", 200)
        self.assertEqual("kept", self.assert_reached(["a"], great, ("if", great, ("name", "an")), ("not", A))[0])
        self.assertEqual("kept", self.assert_reached(["a", "b"], nots(24), ("and", nots(23), B), ("not", great))[0])

    def test_order_is_passed_by_where_it_isnt_theirs(self):
        begin, step, bad = read_saying("a"), read_saying("an is a"), read_saying("not a")
        for order in ((), ("a",), ("a", "a"), ("zz", "an", "m0")):
            self.assertEqual("kept", self.assert_reached(["a"], begin, step, bad, order=order)[0])

    def test_new_each_time(self):
        begin, step = read_saying("not a and not b"), read_saying(COUNT)
        told = reached(["a", "b"], begin, step, A)
        told[1][0].clear()
        told[1].clear()
        self.assert_reached(["a", "b"], begin, step, A)
        reached(["a", "b"], begin, step, NO)[3].clear()
        self.assert_reached(["a", "b"], begin, step, NO)


class Refused(Told):

    def test_names_that_arent_theirs(self):
        for lacking, names, begin, step, bad in (
            ("c", "ab", "c or a", "an", "b"), ("c", "ab", "a", "c", "b"), ("c", "ab", "a", "an", "c or b"),
            ("an", "ab", "an", "an", "b"), ("bn", "ab", "a", "bn", "bn or b"), ("cn", "ab", "a", "cn or an", "b"),
            ("ann", "ab", "a", "ann or an", "b"), ("b", "ac", "x or c", "b and y", "bn or z"),
            ("an", "ab", "x", "y", "an"), ("x", "ab", "x", "y", "z"), ("n", "a", "a", "n", "a"),
        ):
            self.assert_no_name(lacking, list(names), begin, step, bad)
            self.assert_no_name(lacking, list(names)[::-1], begin, step, bad)

    def test_those_behind_are_steps_alone(self):
        self.assertEqual("kept", self.assert_reached(["a", "b"], A, read_saying("an or bn"), NO)[0])


if __name__ == "__main__":
    unittest.main()
