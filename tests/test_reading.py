"""Reading texts (points 178 to 185, 188 to 190)."""

import random
import unittest

from backseen.errors import TextError
from backseen.machines import is_machine
from backseen.reading import next_tokens, read_machine, read_paper, read_records, read_sample
from backseen.words import is_sample
import oddities
import oracles
import texts

chance = random.Random(183)
READERS = {"SAMPLE": read_sample, "MACHINE": read_machine, "PAPER": read_paper, "RECORDS": read_records}
TEXTS = [texts.random_text(seed) for seed in range(260)]
PIECES = texts.NAMES + texts.SIGNS * 2 + ["a", "b", "-", "ab", "c", "z", "aa", "ba", "b" * 13]
PIECES += ["0", "1", "2", "3", "4", "5", "9", "12", "13", "99"] * 2


def told(function, text):
    try:
        return function(text)
    except TextError as error:
        return error.column, error.problem


def problem_of(name, text):
    """The column and the problem of a text that has one."""
    found = told(READERS[name], text)
    assert isinstance(found[0], int), found
    return found


def broken(text):
    """A text with one token or two left out, brought twice, exchanged, or replaced by another one."""
    pieces = [token[1] for token in texts.plain_scan(text)[:-1]]
    for _ in range(chance.choice((1, 1, 2))):
        at = chance.randrange(len(pieces)) if pieces else 0
        way = chance.randrange(8)
        if way == 0:
            del pieces[at:at + 1]
        elif way == 1:
            pieces.insert(at, chance.choice(PIECES))
        elif way == 2:
            pieces[at:at + 1] = [chance.choice(PIECES)]
        elif way == 3:
            pieces[at:at + 2] = pieces[at:at + 2][::-1]
        elif way == 4:
            pieces[at:at] = pieces[at:at + chance.randint(1, 4)]
        else:
            # Another token of the same kind: so the grammar is followed.
            kinds = [(piece.isdigit(), piece.islower() or piece == "-") for piece in pieces]
            places = [at for at, kind in enumerate(kinds) if True in kind]
            if places:
                at = chance.choice(places)
                same = [piece for piece in PIECES if (piece.isdigit(), piece.islower() or piece == "-") == kinds[at]]
                pieces[at] = chance.choice(same)
    return spaced(pieces)


def spaced(pieces):
    """The pieces with blanks between them where they are needed, and here and there more of them."""
    text = " " * chance.choice((0, 0, 1))
    for at, piece in enumerate(pieces):
        apart = at > 0 and text[-1:].isalnum() and piece.isalnum()
        text += " " * (chance.choice((1, 1, 2)) if apart else chance.choice((0, 1)))
        text += piece
    return text + " " * chance.choice((0, 0, 1))


class Problems(unittest.TestCase):
    def test_points_181_to_185_texts_with_something_wrong(self):
        problems = {}
        for name, text in TEXTS:
            for _ in range(16):
                other = broken(text)
                for part in (name, chance.choice(list(READERS))):
                    plain = texts.plain_read(part, other)
                    self.assertEqual(told(READERS[part], other), plain, (part, other))
                    if isinstance(plain[0], int):
                        problem = plain[1].split()[0] if plain[1].startswith("expected") else plain[1]
                        problems[problem] = problems.get(problem, 0) + 1
        self.assertLessEqual({
            "expected", texts.LETTERS, texts.OTHER, "the words do not ascend", "an arrow has one of the letters",
            "no word leads to this state", "the letters of a state do not ascend", "there is no such state",
            "the next new state has another number", "this state leads to no end", "a letter is expected",
            "there is no such look", "a word has more than 12 letters",
        }, set(problems))

    def test_points_181_to_185_right_texts_are_read(self):
        for name, text in TEXTS:
            value = READERS[name](text)
            self.assertEqual(value, texts.plain_read(name, text))
            for part in READERS:
                if part != name:
                    self.assertEqual(problem_of(part, text), texts.plain_read(part, text))
            self.assertIs(type(value), tuple)
            if name == "SAMPLE":
                self.assertTrue(is_sample(*value))
            if name == "MACHINE":
                self.assertTrue(is_machine(value))

    def test_point_187_spaces_and_zeros_change_nothing(self):
        for name, text in TEXTS:
            pieces = []
            for token in texts.plain_scan(text)[:-1]:
                zeros = "0" * chance.randint(0, 4 - len(token[1])) if token[0] == "number" else ""
                pieces.append(zeros + token[1])
            self.assertEqual(READERS[name](spaced(pieces)), READERS[name](text))

    def test_point_182_each_token_that_cannot_come_is_refused(self):
        grammar = texts.WHOLE
        for name, text in TEXTS[:90]:
            tokens = texts.plain_scan(text)
            parts = grammar.begin(name)
            for token in tokens:
                can = grammar.can_come(parts)
                for piece in ("a", "7", ":", "*", "|", "WAY", "PAPER", "RAISE", "ENDS"):
                    kind = {"a": "word", "7": "number"}.get(piece, piece)
                    if kind not in can:
                        ahead = text[:token[2]] + " "
                        self.assertEqual(
                            problem_of(name, ahead + piece + " " + text[token[2]:]),
                            (len(ahead), texts.expected(can)),
                        )
                if "end" not in can:
                    ahead = text[:token[2]]
                    self.assertEqual(problem_of(name, ahead), (len(ahead), texts.expected(can)))
                parts = grammar.behind(parts, texts.key(token))

    def test_point_182_the_words_of_the_problem(self):
        for name, text, problem in (
            ("SAMPLE", "", (0, 'expected "SAMPLE"')), ("MACHINE", "  ", (2, 'expected "MACHINE"')),
            ("SAMPLE", "MACHINE", (0, 'expected "SAMPLE"')), ("RECORDS", "a", (0, 'expected "RECORDS"')),
            ("PAPER", "SAMPLE ab:", (0, 'expected "MUST", "NOT", "CLASH", "FREE" or "OPEN"')),
            ("SAMPLE", "SAMPLE", (6, "expected a word")), ("SAMPLE", "SAMPLE 1", (7, "expected a word")),
            ("SAMPLE", "SAMPLE a", (8, 'expected ":"')), ("SAMPLE", "SAMPLE a:,", (9, "expected a word or the end")),
            ("SAMPLE", "SAMPLE a: a a", (12, 'expected "," or the end')),
            ("SAMPLE", "SAMPLE a: a,", (12, "expected a word")),
            ("MACHINE", "MACHINE a: ;", (11, 'expected a word, "*" or the end')),
            ("MACHINE", "MACHINE a: a 0 0", (15, 'expected a word, ";" or the end')),
            ("MACHINE", "MACHINE a: a;", (12, "expected a number")),
            ("MACHINE", "MACHINE a: *;", (13, 'expected a word or "*"')),
            ("MACHINE", "MACHINE a: * *", (13, 'expected a word, ";" or the end')),
            ("PAPER", "MUST a: a", (8, 'expected "ON", "ENDS", "BACK" or "WAY"')),
            ("PAPER", "MUST a: ENDS a, a", (17, 'expected ";"')), ("PAPER", "MUST a: ON a, a;", (15, 'expected ","')),
            ("PAPER", "NOT a: WAY a", (7, "expected a word")), ("PAPER", "CLASH a: a WAY", (11, 'expected ";"')),
            ("PAPER", "MUST a: WAY a; ENDS a, a", (13, 'expected "," or the end')),
            ("PAPER", "FREE a: |", (8, 'expected a word, "*" or the end')),
            ("PAPER", "OPEN a:", (7, 'expected a word, "*" or "|"')),
            ("PAPER", "OPEN a: * a 0", (13, 'expected a word, ";" or "|"')),
            ("PAPER", "OPEN a: | |", (10, 'expected a word, "*" or the end')),
            ("RECORDS", "RECORDS a:", (9, "expected a number")), ("RECORDS", "RECORDS a 1 2", (12, 'expected ":"')),
            ("RECORDS", "RECORDS a 1: a", (13, 'expected "IN", "OUT", "TAKE", "ASK", "RAISE" or the end')),
            ("RECORDS", "RECORDS a 1: IN a a", (
                18, 'expected "IN", "OUT", "TAKE", "ASK", "RAISE", "PAPER" or the end',
            )),
            ("RECORDS", "RECORDS a 1: PAPER", (13, 'expected "IN", "OUT", "TAKE", "ASK", "RAISE" or the end')),
            ("RECORDS", "RECORDS a 1: RAISE PAPER MUST", (25, "expected a number")),
            ("RECORDS", "RECORDS a 1: RAISE PAPER 0 FREE", (27, 'expected "MUST", "NOT", "CLASH" or "OPEN"')),
            ("RECORDS", "RECORDS a 1: RAISE PAPER 0 MUST WAY a ;", (
                38, 'expected "IN", "OUT", "TAKE", "ASK", "RAISE", "PAPER", "," or the end',
            )),
            ("RECORDS", "RECORDS a 1: RAISE PAPER 0 OPEN | * a 0 0", (
                40, 'expected a word, "IN", "OUT", "TAKE", "ASK", "RAISE", "PAPER", ";" or the end',
            )),
        ):
            self.assertEqual(problem_of(name, text), problem, text)
            self.assertEqual(texts.plain_read(name, text), problem, text)

    def test_point_180_problems_of_tokens_come_ahead_of_all_others(self):
        for name, text in (
            ("SAMPLE", "MACHINE ba: * ."), ("MACHINE", "MACHINE ba: a 7 ."), ("PAPER", "MUST a: a ."),
            ("RECORDS", "RECORDS a 99: IN b ."), ("SAMPLE", "SAMPLE a: b ."),
        ):
            column = len(text) - 1
            self.assertEqual(problem_of(name, text), (column, texts.NONE_BEGINS))
            self.assertEqual(problem_of(name, text[:-1] + "MUSTY ."), (column, texts.NO_NAME))
            self.assertEqual(problem_of(name, text[:-1] + "00000 X"), (column, texts.DIGITS))
            self.assertEqual(told(next_tokens, text), (column, texts.NONE_BEGINS))

    def test_points_182_and_183_the_grammar_comes_ahead_of_the_rest(self):
        for name, text, column in (
            ("SAMPLE", "SAMPLE ba: c, c,", 16), ("MACHINE", "MACHINE aa: b 7 7", 16),
            ("PAPER", "MUST -: WAY b, c, ,", 18),
            ("RECORDS", "RECORDS abcde 13: IN z OUT", 26),
        ):
            self.assertEqual(problem_of(name, text)[0], column)
            self.assertIn("expected", problem_of(name, text)[1])

    def test_point_183_letters(self):
        for name, ahead, behind in (
            ("SAMPLE", "SAMPLE ", ":"), ("MACHINE", "MACHINE ", ":"), ("PAPER", "FREE ", ":"),
            ("PAPER", "OPEN ", ": |"),
            ("PAPER", "MUST ", ": WAY -"), ("PAPER", "NOT ", ": -; WAY -"), ("RECORDS", "RECORDS ", " 0:"),
        ):
            for letters in ("-", "ba", "aa", "abcde", "zz", "abb", "a" * 300):
                self.assertEqual(problem_of(name, ahead + letters + behind), (len(ahead), texts.LETTERS))
            for letters in ("a", "z", "ab", "wxyz", "ceg"):
                self.assertNotIsInstance(told(READERS[name], ahead + letters + behind)[0], int)
        # Of several problems the one that stands first in the text.
        self.assertEqual(problem_of("RECORDS", "RECORDS ba 13: IN z"), (8, texts.LETTERS))
        self.assertEqual(problem_of("RECORDS", "RECORDS ab 13: IN z"), (11, "there is no such look"))
        self.assertEqual(problem_of("RECORDS", "RECORDS ab 12: IN z"), (18, texts.OTHER))

    def test_point_183_words_of_a_sample(self):
        ascend = "the words do not ascend"
        for text, problem in (
            ("SAMPLE ab: c", (11, texts.OTHER)), ("SAMPLE ab: a, -", (14, ascend)), ("SAMPLE ab: a, a", (14, ascend)),
            ("SAMPLE ab: b, a", (14, ascend)), ("SAMPLE ab: -, -", (14, ascend)), ("SAMPLE ab: aa, b", (15, ascend)),
            ("SAMPLE ab: b, c, a", (14, texts.OTHER)), ("SAMPLE ab: b, a, c", (14, ascend)),
            ("SAMPLE ab: b, ac", (14, texts.OTHER)), ("SAMPLE ab: bb, ac", (15, texts.OTHER)),
        ):
            self.assertEqual(problem_of("SAMPLE", text), problem)
        self.assertEqual(read_sample("SAMPLE ab:"), ("ab", ()))
        self.assertEqual(read_sample("SAMPLE ab: -"), ("ab", ("",)))
        self.assertEqual(read_sample(" SAMPLE  ab :a,b ,ba "), ("ab", ("a", "b", "ba")))

    def test_point_183_200_words_and_2000_letters_and_more(self):
        words = oracles.all_words("ab", 7)
        for many in (199, 200, 201, 202):
            text = texts.plain_sample("ab", words[:many])
            if many <= 200:
                self.assertEqual(read_sample(text), ("ab", tuple(words[:many])))
            else:
                column = len(texts.plain_sample("ab", words[:200])) + 2
                self.assertEqual(problem_of("SAMPLE", text), (column, "there are more than 200 words"))
                self.assertEqual(
                    problem_of("SAMPLE", text[:column] + "a, b"), (column, "the words do not ascend"),
                )
                self.assertEqual(problem_of("SAMPLE", text[:column] + "c" * 30), (column, texts.OTHER))
        letters = "there are more than 2000 letters"
        self.assertEqual(read_sample("SAMPLE a: " + "a" * 2000), ("a", ("a" * 2000,)))
        self.assertEqual(problem_of("SAMPLE", "SAMPLE a: " + "a" * 2001), (10, letters))
        self.assertEqual(problem_of("SAMPLE", "SAMPLE a: " + "b" * 2001), (10, texts.OTHER))
        both = "SAMPLE a: " + "a" * 900 + ", " + "a" * 1100
        self.assertEqual(read_sample(both), ("a", ("a" * 900, "a" * 1100)))
        self.assertEqual(problem_of("SAMPLE", both + "a"), (912, letters))
        self.assertEqual(problem_of("SAMPLE", both + ", " + "a" * 1101), (2014, letters))
        self.assertEqual(problem_of("SAMPLE", both + ", a"), (2014, "the words do not ascend"))
        # The 201st word that also has too many letters: the number of words stands first.
        text = texts.plain_sample("ab", words[:200])
        self.assertEqual(
            problem_of("SAMPLE", text + ", " + "a" * 2001), (len(text) + 2, "there are more than 200 words"),
        )

    def test_point_184_machines(self):
        lead, next_new = "no word leads to this state", "the next new state has another number"
        arrow, order = "an arrow has one of the letters", "the letters of a state do not ascend"
        such, end = "there is no such state", "this state leads to no end"
        for text, problem in (
            ("a 2 b 1; *; *", (14, next_new)), ("* a 1; a 1", (19, end)), ("*; *", (15, lead)),
            ("* a 0; *", (19, lead)),
            ("* c 0", (14, arrow)), ("* ab 0", (14, arrow)), ("* - 0", (14, arrow)), ("* b 0 a 0", (18, order)),
            ("* a 0 a 0", (18, order)), ("* a 1", (16, such)), ("* a 9999", (16, such)), ("a 0", (12, end)),
            ("a 0; *", (17, lead)), ("a 1; a 0", (12, end)), ("* b 1 a 7; c 3", (16 + 2, order)),
            ("* a 2; *", (16, such)), ("* a 2; *; *", (16, next_new)), ("* a 1 b 3; *; *; *", (20, next_new)),
            ("* a 1; *; *", (22, lead)), ("* a 1; * c 2", (21, arrow)), ("* a 1 b 2; a 1; b 2", (23, end)),
            ("* a 1; * a 2; b 2", (26, end)), ("c 0", (12, arrow)), ("*; c 0", (15, lead)),
            ("* a 1 b 2; * b 1; * c 2", (32, arrow)), ("* b 7 a 1", (16, such)), ("* - 5", (14, arrow)),
        ):
            text = "MACHINE ab: " + text
            self.assertEqual(problem_of("MACHINE", text), problem, text)
            self.assertEqual(texts.plain_read("MACHINE", text), problem, text)
        self.assertEqual(read_machine("MACHINE ab:"), ("ab", (), ()))
        self.assertEqual(read_machine("MACHINE ab: *"), ("ab", ((None, None),), (0,)))
        self.assertEqual(read_machine("MACHINE ab:*a0000b0"), ("ab", ((0, 0),), (0,)))
        # It need not be the least one.
        self.assertEqual(read_machine("MACHINE a: * a 1; * a 0"), ("a", ((1,), (0,)), (0, 1)))

    def test_point_184_400_states_and_more(self):
        for many in (399, 400):
            machine = oddities.chain("ab", many)
            self.assertEqual(read_machine(texts.plain_machine(machine)), machine)
            circle = oddities.circle("abcd", many)
            self.assertEqual(read_machine(texts.plain_machine(circle)), circle)
        more = "there are more than 400 states"
        for many in (401, 402, 500):
            text = texts.plain_machine(oddities.chain("a", many))
            column = len(texts.plain_machine(oddities.chain("a", 401))) - 1
            self.assertEqual(problem_of("MACHINE", text), (column, more))
            # Both machines of OPEN are counted by themselves.
            one, two = (text[len("MACHINE a: "):], texts.states_text(oddities.chain("a", 400)))
            self.assertEqual(problem_of("PAPER", f"OPEN a: {two} | {one}")[1], more)
            self.assertEqual(problem_of("PAPER", f"OPEN a: {one} | {two}"), (column - 3, more))
            self.assertEqual(problem_of("PAPER", f"FREE a: {one}"), (column - 3, more))
            # Ahead of what else is wrong there, and behind what is wrong ahead.
            self.assertEqual(problem_of("MACHINE", text[:column] + "b 7"), (column, more))
            self.assertEqual(problem_of("MACHINE", text[:column - 2] + "9; *")[1], "there is no such state")
        two = oddities.chain("a", 400)
        self.assertEqual(read_paper(texts.plain_paper("a", ("open", two, two))), ("a", ("open", two, two)))

    def test_point_184_a_state_that_leads_to_no_end_at_last(self):
        end = "this state leads to no end"
        for name, text, problem in (
            ("PAPER", "OPEN a: a 0 | b 0", (14, "an arrow has one of the letters")),
            ("PAPER", "OPEN a: a 0 | a 0", (8, end)),
            ("PAPER", "OPEN a: * | a 0", (12, end)), ("PAPER", "OPEN a: | * a 1; a 1", (17, end)),
            ("PAPER", "FREE a: * a 1; a 1", (15, end)),
            ("RECORDS", "RECORDS a 0: RAISE PAPER 0 OPEN a 0 | * IN a", (32, end)),
            ("RECORDS", "RECORDS a 0: RAISE PAPER 0 OPEN a 0 | * IN b", (43, texts.OTHER)),
            ("RECORDS", "RECORDS a 0: RAISE PAPER 0 OPEN * | * PAPER 1 OPEN | a 0 PAPER 2 OPEN a 0 |", (53, end)),
            ("RECORDS", "RECORDS a 0: RAISE PAPER 0 OPEN * | a 0 IN aaaaaaaaaaaaa", (
                43, "a word has more than 12 letters",
            )),
        ):
            self.assertEqual(problem_of(name, text), problem, text)
            self.assertEqual(texts.plain_read(name, text), problem, text)

    def test_point_185_words_of_papers(self):
        letter = "a letter is expected"
        for text, problem in (
            ("MUST ab: WAY c", (13, texts.OTHER)), ("MUST ab: WAY a, b, c, d", (19, texts.OTHER)),
            ("MUST ab: ENDS c, a; WAY d", (14, texts.OTHER)), ("MUST ab: ENDS a, c; WAY a", (17, texts.OTHER)),
            ("MUST ab: ON a, b, c; WAY a", (18, letter)), ("MUST ab: ON a, b, -; WAY a", (18, letter)),
            ("MUST ab: BACK a, b, ab; WAY a", (20, letter)), ("MUST ab: BACK c, b, ab; WAY a", (14, texts.OTHER)),
            ("NOT ab: c; WAY c", (8, texts.OTHER)), ("CLASH ab: abc; WAY c", (10, texts.OTHER)),
            ("CLASH ab: ab; ON a, a, aa; WAY c", (23, letter)),
            ("FREE ab: * ab 0", (11, "an arrow has one of the letters")),
        ):
            self.assertEqual(problem_of("PAPER", text), problem, text)
        self.assertEqual(
            read_paper("NOT ab: -; ON a, ab, b; ENDS -, -; BACK b, -, a; WAY -, a, -"),
            ("ab", ("must not", "", (("on", "a", "ab", "b"), ("ends", "", ""), ("back", "b", "", "a")), ("", "a", ""))),
        )
        self.assertEqual(read_paper("CLASH z: zz; WAY -"), ("z", ("clash", "zz", (), ("",))))
        self.assertEqual(read_paper("FREE z:"), ("z", ("free", ("z", (), ()))))
        self.assertEqual(read_paper("OPEN z: | *"), ("z", ("open", ("z", (), ()), ("z", ((None,),), (0,)))))
        self.assertEqual(read_paper("MUST a: WAY " + "a" * 15000), ("a", ("must", (), ("a" * 15000,))))

    def test_point_185_records(self):
        for look in range(13):
            self.assertEqual(read_records(f"RECORDS ab {look:03}:"), ("ab", look, ()))
        for look in (13, 20, 100, 9999):
            self.assertEqual(problem_of("RECORDS", f"RECORDS ab {look}:"), (11, "there is no such look"))
        for name, deed in (("IN", "in"), ("OUT", "out"), ("TAKE", "back"), ("ASK", "ask")):
            most = 100 if name == "ASK" else 12
            problem = f"a word has more than {most} letters"
            for many in (0, 1, 12, 13, 100, 101, 5000):
                text = f"RECORDS ab 0: {name} {'b' * many or '-'}"
                column = len(name) + 15
                if many <= most:
                    self.assertEqual(read_records(text), ("ab", 0, (((deed, "b" * many), ()),)))
                else:
                    self.assertEqual(problem_of("RECORDS", text), (column, problem))
                    self.assertEqual(problem_of("RECORDS", text + "c"), (column, texts.OTHER))
        self.assertEqual(
            read_records("RECORDS ab 2: RAISE PAPER 0007 MUST WAY a PAPER 7 NOT b; WAY -, - RAISE"),
            ("ab", 2, (
                (("raise",), ((7, ("must", (), ("a",))), (7, ("must not", "b", (), ("", ""))))), (("raise",), ()),
            )),
        )
        self.assertEqual(
            read_records("RECORDS a 0: ASK a PAPER 9999 OPEN | PAPER 0 OPEN * | PAPER 1 CLASH a; WAY a TAKE -")[2],
            (
                (("ask", "a"), (
                    (9999, ("open", ("a", (), ()), ("a", (), ()))),
                    (0, ("open", ("a", ((None,),), (0,)), ("a", (), ()))),
                    (1, ("clash", "a", (), ("a",))),
                )), (("back", ""), ()),
            ),
        )
        self.assertEqual(len(read_records("RECORDS a 0: " + "RAISE " * 3000)[2]), 3000)


class Next(unittest.TestCase):
    def test_point_189_behind_every_beginning(self):
        tried = {}
        for name, text in TEXTS:
            tokens = texts.plain_scan(text)
            for token in tokens:
                for ahead in (text[:token[2]], text[:token[2]] + "   "):
                    found = next_tokens(ahead)
                    self.assertIs(type(found), list)
                    self.assertEqual(found, texts.plain_next(ahead))
                    tried[tuple(found)] = True
            self.assertIn("the end", next_tokens(text))
        self.assertGreaterEqual(len(tried), 20)

    def test_point_189_what_is_told_can_come_and_nothing_else(self):
        pieces = {"a word": "a", "a number": "7"}
        pieces.update({f'"{token}"': token for token in texts.NAMES + texts.SIGNS})
        for name, text in TEXTS[:50]:
            for token in texts.plain_scan(text):
                ahead = text[:token[2]] + " "
                can = next_tokens(ahead)
                for string, piece in pieces.items():
                    found = told(next_tokens, ahead + piece)
                    if string in can:
                        self.assertNotIsInstance(found[0], int)
                    else:
                        problem = ", ".join(can[:-1]) + " or " + can[-1] if len(can) > 1 else can[0]
                        self.assertEqual(found, (len(ahead), "expected " + problem))

    def test_point_189_texts_with_problems_of_other_points(self):
        for text in (
            "SAMPLE ba: zz, a, a", "MACHINE aa: q 99; * zz 7", "MUST -: ENDS q, q; WAY zz",
            "RECORDS abcde 99: IN zzzzzzzzzzzzzzz",
            "OPEN a: a 0 | a 0", "NOT q: a; ON a, b, ccc; WAY -", "MACHINE ab: *; *", "CLASH a: b; WAY c",
        ):
            self.assertIn("the end", next_tokens(text))
            self.assertEqual(next_tokens(text), texts.plain_next(text))
            for end in range(len(text)):
                self.assertEqual(told(next_tokens, text[:end]), texts.plain_next(text[:end]))

    def test_point_189_broken_texts(self):
        for name, text in TEXTS:
            for _ in range(4):
                other = broken(text)
                self.assertEqual(told(next_tokens, other), texts.plain_next(other), other)

    def test_point_189_of_no_token_and_of_all(self):
        names = ["SAMPLE", "MACHINE", "MUST", "NOT", "CLASH", "FREE", "OPEN", "RECORDS"]
        self.assertEqual(next_tokens(""), [f'"{name}"' for name in names])
        self.assertEqual(next_tokens("   "), next_tokens(""))
        self.assertEqual(next_tokens("SAMPLE ab: a"), ['","', "the end"])
        self.assertEqual(next_tokens("SAMPLE ab:"), ["a word", "the end"])
        self.assertEqual(next_tokens("FREE ab:"), ["a word", '"*"', "the end"])
        self.assertEqual(next_tokens("OPEN ab:"), ["a word", '"*"', '"|"'])
        self.assertEqual(next_tokens("RECORDS ab"), ["a number"])
        self.assertEqual(next_tokens("MUST ab: ON a, a"), ['","'])
        self.assertEqual(
            next_tokens("RECORDS a 0: ASK a PAPER 1 OPEN a 0 | a 0"),
            ["a word", '"IN"', '"OUT"', '"TAKE"', '"ASK"', '"RAISE"', '"PAPER"', '";"', "the end"],
        )
        self.assertEqual(
            told(next_tokens, "a"),
            (0, 'expected "SAMPLE", "MACHINE", "MUST", "NOT", "CLASH", "FREE", "OPEN" or "RECORDS"'),
        )

    def test_point_2_lists_are_new(self):
        one = next_tokens("SAMPLE a:")
        one.append(None)
        one[0] = None
        self.assertEqual(next_tokens("SAMPLE a:"), ["a word", "the end"])


class Wrong(unittest.TestCase):
    def test_points_179_and_188_texts_of_any_kind(self):
        for function in (next_tokens, *READERS.values()):
            wrong = [None, 0, 1, ("SAMPLE a:",), ["SAMPLE a:"], "SAMPLE a:\n", "\n", "a" * 20001]
            for odd in oddities.oddities() + wrong:
                if type(odd) is str and len(odd) <= 20000 and "\n" not in odd:
                    self.assertIsInstance(told(function, odd)[0], int)
                else:
                    self.assertTrue(oddities.is_refused(function, (odd,), "text"))
            self.assertTrue(oddities.is_refused(function, ("." * 20001,), "text"))
            self.assertTrue(oddities.is_refused(function, (".\n",), "text"))

    def test_point_179_texts_of_20000_characters(self):
        text = "SAMPLE a: " + "a" * 2000
        self.assertEqual(read_sample(text + " " * (20000 - len(text))), ("a", ("a" * 2000,)))
        self.assertTrue(oddities.is_refused(read_sample, (text + " " * (20001 - len(text)),), "text"))
        ahead = "MUST a: WAY -" + ", -" * 6662
        self.assertEqual(len(read_paper(ahead)[1][2]), 6663)
        self.assertEqual(problem_of("PAPER", ahead + "-"), (len(ahead), 'expected "," or the end'))
        self.assertEqual(problem_of("SAMPLE", "SAMPLE" + "-" * 19994), (7, 'expected ":"'))
        self.assertEqual(problem_of("SAMPLE", " " * 20000), (20000, 'expected "SAMPLE"'))

    def test_point_190_examples(self):
        self.assertEqual(read_sample("SAMPLE ab: -, b, aa, aba"), ("ab", ("", "b", "aa", "aba")))
        self.assertEqual(read_machine("MACHINE ab: * a 1 b 0; a 0 b 1"), oddities.EVEN)
        self.assertEqual(
            problem_of("MACHINE", "MACHINE ab: a 2 b 1; *; *"), (14, "the next new state has another number"),
        )
        self.assertEqual(problem_of("MACHINE", "MACHINE a: * a 1; a 1"), (18, "this state leads to no end"))


if __name__ == "__main__":
    unittest.main()
