"""Writing texts (points 178, 179, 186 to 188)."""

import random
import unittest

from backseen.errors import TooLarge
from backseen.machines import least_of
from backseen.papers import paper_for
from backseen.reading import read_machine, read_paper, read_records, read_sample
from backseen.sides import verdict_paper
from backseen.writing import machine_text, paper_text, records_text, sample_text
import oddities
import oracles
import texts
from oddities import EVEN, EVERY, NONE, chain, circle

chance = random.Random(186)
EVEN_A = ("a", ((1,), (0,)), (0,))
ALPHABETS = ("a", "ab", "abc", "bx", "wxyz")


def raised(function, *arguments):
    try:
        function(*arguments)
    except TooLarge as error:
        return error.what
    return None


class Writing(unittest.TestCase):
    def test_points_186_and_187_samples(self):
        for letters in ALPHABETS:
            for sample in oracles.random_samples(186, 40, letters, 8, 6) + [(), ("",), (letters[0] * 2000,)]:
                text = sample_text(letters, sample)
                self.assertEqual(text, texts.plain_sample(letters, sample))
                self.assertEqual(read_sample(text), (letters, sample))
        self.assertEqual(sample_text("ab", ("", "b", "aa", "aba")), "SAMPLE ab: -, b, aa, aba")
        self.assertEqual(sample_text("z", ()), "SAMPLE z:")

    def test_points_186_and_187_machines(self):
        for letters in ALPHABETS:
            for machine in oracles.random_machines(187, 60, letters, 6) + [(letters, (), ()), chain(letters, 30)]:
                text = machine_text(machine)
                self.assertEqual(text, texts.plain_machine(machine))
                self.assertEqual(read_machine(text), machine)
        self.assertEqual(machine_text(EVEN), "MACHINE ab: * a 1 b 0; a 0 b 1")
        self.assertEqual(machine_text(NONE), "MACHINE ab:")
        self.assertEqual(machine_text(("ab", ((None, None),), (0,))), "MACHINE ab: *")

    def test_point_187_two_least_machines_have_the_same_text_exactly_if_they_have_the_same_language(self):
        machines = oracles.random_machines(188, 150, "ab", 3)
        least = [least_of(machine) for machine in machines]
        same = 0
        for one in least:
            for other in least:
                self.assertIs(machine_text(one) == machine_text(other), one == other)
                same += one == other
        self.assertGreater(same, 200)

    def test_points_178_186_and_187_papers(self):
        for letters in ALPHABETS:
            for _ in range(80):
                paper = texts.random_paper(chance, letters)
                text = paper_text(letters, paper)
                self.assertEqual(text, texts.plain_paper(letters, paper))
                self.assertEqual(read_paper(text), (letters, paper))
        empty, one = ("ab", (), ()), ("ab", ((None, None),), (0,))
        for paper, text in (
            (("must", (), ("",)), "MUST ab: WAY -"), (("free", empty), "FREE ab:"), (("free", one), "FREE ab: *"),
            (("open", empty, empty), "OPEN ab: |"), (("open", one, empty), "OPEN ab: * |"),
            (("open", empty, one), "OPEN ab: | *"), (("clash", "", (), ("a", "")), "CLASH ab: -; WAY a, -"),
            (("must not", "b", (("ends", "a", "ab"), ("back", "", "a", "b")), ("", "b")),
             "NOT ab: b; ENDS a, ab; BACK -, a, b; WAY -, b"),
            (("must", (("on", "a", "b", "a"),), ("",)), "MUST ab: ON a, b, a; WAY -"),
        ):
            self.assertEqual(paper_text("ab", paper), text)
            self.assertEqual(read_paper(text), ("ab", paper))

    def test_points_178_186_and_187_records(self):
        for letters in ALPHABETS:
            for _ in range(60):
                k, records = chance.randint(0, 12), texts.random_records(chance, letters)
                text = records_text(letters, k, records)
                self.assertEqual(text, texts.plain_records(letters, k, records))
                self.assertEqual(read_records(text), (letters, k, records))
        self.assertEqual(records_text("ab", 12, ()), "RECORDS ab 12:")
        records = ((("in", ""), ()), (("raise",), ((9999, ("must", (), ("a",))),)), (("back", "b"), ()))
        text = "RECORDS ab 0: IN - RAISE PAPER 9999 MUST WAY a TAKE b"
        self.assertEqual(records_text("ab", 0, records), text)
        # More than 24 of them, in any sequence, right or not.
        fresh = (7, ("clash", "", (), ("",))), (7, ("open", NONE, EVEN)), (0, ("must", (), ("",)))
        many = ((("out", "a"), fresh),) * 60
        self.assertEqual(read_records(records_text("ab", 3, many)), ("ab", 3, many))

    def test_point_187_papers_that_the_library_returns(self):
        for sample in oracles.random_samples(189, 40, "ab", 4, 4):
            outside = oracles.random_sample(chance, "ab", 3, 4)
            for k in (0, 1, 2):
                for word in ("", "ab", "bab", "aaaa"):
                    for paper in (paper_for("ab", sample, k, word), verdict_paper("ab", sample, outside, k, word)):
                        self.assertEqual(read_paper(paper_text("ab", paper)), ("ab", paper))

    def test_point_188_samples_and_machines_always_have_a_text(self):
        words = oracles.in_order(oracles.all_words("abcd", 5)[1:])
        sample = oracles.in_order(words[340:440] + words[-100:])
        self.assertEqual((len(sample), sum(map(len, sample)) <= 2000), (200, True))
        self.assertEqual(read_sample(sample_text("abcd", sample)), ("abcd", sample))
        full = oracles.in_order(["a" * 10 + word for word in oracles.all_words("ab", 7)][:112])
        self.assertLess(len(sample_text("ab", full)), 20000)
        machine = circle("abcd", 400, tuple(range(400)))
        self.assertEqual(read_machine(machine_text(machine)), machine)
        self.assertLess(len(machine_text(machine)), 20000)

    def test_point_188_papers_of_20000_characters_and_more(self):
        rows = (("ends", "a", "a"),) * 900 + (("on", "a", "", "a"), ("back", "aa", "a", "a"))

        for make in (
            lambda word: ("must", (), (word,)), lambda word: ("must", rows, ("", "a", word)),
            lambda word: ("must not", word, rows, ("",)),
            lambda word: ("clash", "a", (("on", "a", word, "a"),), ("", "a")),
        ):
            ahead = len(texts.plain_paper("a", make("a"))) - 1
            for length, told in ((19999, None), (20000, None), (20001, "text"), (30000, "text")):
                paper = make("a" * (length - ahead))
                self.assertEqual(len(texts.plain_paper("a", paper)), length)
                self.assertEqual(raised(paper_text, "a", paper), told)
                if told is None:
                    self.assertEqual(read_paper(paper_text("a", paper)), ("a", paper))
        machine, told = circle("abcd", 400, tuple(range(400))), {}
        for many in range(340, 401):
            paper = ("open", machine, circle("abcd", many, tuple(range(many))))
            told[len(texts.plain_paper("abcd", paper)) > 20000] = True
            self.assertEqual(
                raised(paper_text, "abcd", paper), "text" if len(texts.plain_paper("abcd", paper)) > 20000 else None,
            )
        self.assertEqual(set(told), {True, False})
        self.assertEqual(raised(paper_text, "abcd", ("free", machine)), None)

    def test_point_188_records_of_20000_characters_and_more(self):
        for ahead in ((), ((("raise",), ()),) * 7, ((("ask", "a"), ((0, ("open", EVEN_A, EVEN_A)),)),)):
            length = len(texts.plain_records("a", 0, ahead + ((("raise",), ((0, ("must", (), ("a",))),)),))) - 1
            for many, told in ((19999, None), (20000, None), (20001, "text")):
                records = ahead + ((("raise",), ((0, ("must", (), ("a" * (many - length),))),)),)
                self.assertEqual(len(texts.plain_records("a", 0, records)), many)
                self.assertEqual(raised(records_text, "a", 0, records), told)
                if told is None:
                    self.assertEqual(read_records(records_text("a", 0, records)), ("a", 0, records))
        # 3331 times " RAISE", and more characters in the number of the look.
        records = ((("raise",), ()),) * 3331
        self.assertEqual(len(records_text("ab", 1, records)), 19999)
        self.assertEqual(len(records_text("ab", 10, records)), 20000)
        self.assertEqual(raised(records_text, "abc", 10, records), "text")
        self.assertEqual(raised(records_text, "ab", 10, records + records), "text")


class Wrong(unittest.TestCase):
    def papers(self):
        """Values that are no papers over "ab"."""
        way = ("",)
        found = [
            None, "", "must", (), ("must",), ("must", ()), ("must", way), ("must", (), way, ()), ["must", (), way],
            ("Must", (), way), ("apart", NONE), ("must", (), ()), ("must", (), [""]), ("must", [], way),
            ("must", None, way),
            ("must", (), ("c",)), ("must", (), (None,)), ("must", (), "a"), ("must", (("ends", "a"),), way),
            ("must", (("ends", "a", "b", "a"),), way), ("must", (("on", "a", "b"),), way),
            ("must", (("on", "a", "b", "c"),), way), ("must", (("on", "a", "b", "ab"),), way),
            ("must", (("on", "a", "b", ""),), way), ("must", (("on", "c", "b", "a"),), way),
            ("must", (("back", "a", "c", "a"),), way), ("must", (("seen", "a", "b"),), way),
            ("must", (["ends", "a", "b"],), way), ("must", (("ends", 0, 1),), way),
            ("must", (("on", "a", "b", "a", "a"),), way),
            ("must not", (), way), ("must not", "c", (), way), ("must not", None, (), way), ("must not", "a", (), ()),
            ("clash", "a", way), ("clash", "a", (), way, ()), ("clash", ("a",), (), way), ("free",), ("free", None),
            ("free", ("a", (), ())), ("free", EVEN, EVEN), ("free", chain("ab", 401)), ("free", list(EVEN)),
            ("open", EVEN), ("open", EVEN, ("abc", (), ())), ("open", ("a", (), ()), EVEN), ("open", EVEN, EVEN, EVEN),
            ("opened", EVEN, EVEN), ("", NONE, NONE), ("open", EVEN, None), ("free", ("ab", ((True, None),), (0,))),
            ("open", EVEN, ("ab", ((0, 0),), (False,))),
        ]
        for odd in oddities.oddities():
            found += [odd, (odd,), ("must", odd, way), ("must", (), odd), ("must", (odd,), way), ("must", (), (odd,))]
            found += [("must not", odd, (), way), ("free", odd), ("open", odd, EVEN), ("open", EVEN, odd)]
            found += [(odd, (), way)]
            found += [("must", (("on", "a", "b", odd),), way), ("must", (("ends", odd, "b"),), way)]
            found += [("must", ((odd, "a", "b"),), way)]
        return found

    def test_points_178_and_188_wrong_papers(self):
        for paper in self.papers():
            self.assertTrue(oddities.is_refused(paper_text, ("ab", paper), "paper"))
        wrong = {"letters": oddities.LETTERS, "paper": [("must", (), ("c",)), ("must", (), ("b" * 30000, "c"))]}
        oddities.check_wrong(self, paper_text, ("letters", "paper"), ("ab", ("must", (), ("",))), wrong)
        # A paper is one over its letters.
        self.assertEqual(paper_text("abc", ("free", ("abc", (), ()))), "FREE abc:")
        self.assertTrue(oddities.is_refused(paper_text, ("abc", ("free", NONE)), "paper"))
        self.assertEqual(paper_text("abc", ("must", (), ("a",))), "MUST abc: WAY a")

    def test_points_178_and_188_wrong_records(self):
        paper = ("must", (), ("",))
        right = (("ask", "a"), ((0, paper),))
        values = [
            None, "", (right, None), [right], right, ((("ask", "a"),),), ((("ask", "a"), (), ()),),
            ((("ask", "a"), [],),),
            ((["ask", "a"], ()),), ((("ask", "c"), ()),), ((("in", "a" * 13), ()),), ((("ask", "a" * 101), ()),),
            ((("raise", "a"), ()),), ((("undo",), ()),), ((("ask", "a"), (paper,)),), ((("ask", "a"), ((0,),)),),
            ((("ask", "a"), ((0, paper, paper),)),), ((("ask", "a"), ([0, paper],)),),
            ((("ask", "a"), ((-1, paper),)),),
            ((("ask", "a"), ((10000, paper),)),), ((("ask", "a"), ((True, paper),)),),
            ((("ask", "a"), (("0", paper),)),),
            ((("ask", "a"), ((0, ("free", EVEN)),)),), ((("ask", "a"), ((0, ("free", NONE)),)),), (["raise"],),
        ]
        values += [((("ask", "a"), ((0, other),)),) for other in self.papers()]
        for odd in oddities.oddities():
            values += [odd, (odd,), ((odd, ()),), ((("raise",), odd),), ((("raise",), (odd,)),)]
            values += [((("raise",), ((odd, paper),)),), (right, odd), (("in", odd), ())]
        for value in values:
            if type(value) is tuple and value == ():
                continue
            self.assertTrue(oddities.is_refused(records_text, ("ab", 0, value), "records"))
        wrong = {"letters": oddities.LETTERS, "k": oddities.LOOKS, "records": values[:20]}
        oddities.check_wrong(self, records_text, ("letters", "k", "records"), ("ab", 0, (right,)), wrong)
        self.assertTrue(oddities.is_refused(records_text, ("ab", 0, (right,) * 3000 + (None,)), "records"))

    def test_point_188_wrong_samples_and_machines(self):
        wrong = {
            "letters": oddities.LETTERS, "sample": oddities.SAMPLES, "machine": oddities.MACHINES + [chain("a", 401)],
        }
        oddities.check_wrong(self, sample_text, ("letters", "sample"), ("ab", ("a",)), wrong)
        oddities.check_wrong(self, machine_text, ("machine",), (EVERY,), wrong)


if __name__ == "__main__":
    unittest.main()
