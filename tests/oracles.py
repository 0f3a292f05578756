"""Slow and plain second definitions of what the program works out, and small machines and samples to try them on."""

import itertools
import random


def all_words(letters, most):
    return ["".join(word) for many in range(most + 1) for word in itertools.product(letters, repeat=many)]


def place(word):
    return (len(word), word)


def in_order(words):
    return tuple(sorted(set(words), key=place))


def state_behind(machine, word, start=0):
    letters, rows, _ = machine
    if not rows:
        return None
    for letter in word:
        start = rows[start][letters.index(letter)]
        if start is None:
            return None
    return start


def takes(machine, word):
    return state_behind(machine, word) in machine[2]


def language(machine, most):
    return {word for word in all_words(machine[0], most) if takes(machine, word)}


def machine_of(letters, rows, ends, start=0):
    """The machine of a table, numbered and without useless rows, but not made least."""
    useful = set(ends)
    while True:
        more = {at for at, row in enumerate(rows) if at not in useful and any(to in useful for to in row)}
        if not more:
            break
        useful |= more
    if start not in useful:
        return (letters, (), ())
    number, queue = {start: 0}, [start]
    for here in queue:
        for to in rows[here]:
            if to in useful and to not in number:
                number[to] = len(number)
                queue.append(to)
    return (
        letters,
        tuple(tuple(number.get(to) for to in rows[here]) for here in queue),
        tuple(number[here] for here in queue if here in ends),
    )


def random_machine(chance, letters, many, lack=0.3, end=0.4):
    rows = [
        tuple(None if chance.random() < lack else chance.randrange(many) for _ in letters) for _ in range(many)
    ]
    ends = [at for at in range(many) if chance.random() < end]
    return machine_of(letters, rows, ends)


def random_machines(seed, how_many, letters="ab", most=5):
    chance = random.Random(seed)
    return [
        random_machine(chance, letters, chance.randint(1, most), chance.choice((0, 0.2, 0.5)), chance.random())
        for _ in range(how_many)
    ]


def all_machines(letters, many):
    """All machines with so many states."""
    found = []
    targets = (None,) + tuple(range(many))
    for flat in itertools.product(targets, repeat=many * len(letters)):
        rows = tuple(flat[at:at + len(letters)] for at in range(0, len(flat), len(letters)))
        for count in range(1, many + 1):
            for ends in itertools.combinations(range(many), count):
                if machine_of(letters, rows, ends) == (letters, rows, ends):
                    found.append((letters, rows, ends))
    return found


def random_sample(chance, letters, most_words, most_letters):
    words = set()
    for _ in range(chance.randint(0, most_words)):
        words.add("".join(chance.choice(letters) for _ in range(chance.randint(0, most_letters))))
    return in_order(words)


def random_samples(seed, how_many, letters="ab", most_words=5, most_letters=6):
    chance = random.Random(seed)
    return [random_sample(chance, letters, most_words, most_letters) for _ in range(how_many)]


def beginnings(words):
    return in_order(word[:many] for word in words for many in range(len(word) + 1))


def alike(one, other, k):
    return len(one) >= k and len(other) >= k and one[len(one) - k:] == other[len(other) - k:]


def lead(word, k):
    return word if len(word) < k else word[len(word) - k:]


def joined_pairs(letters, sample, k):
    """The pairs of joined beginnings, by the rules as they are told."""
    words = beginnings(sample)
    there = set(words)
    joined = {(word, word) for word in words}
    while True:
        more = set()
        for u, v in itertools.product(words, repeat=2):
            if (u, v) not in joined:
                if u in sample and v in sample and alike(u, v, k):
                    more.add((u, v))
                elif alike(u, v, k) and any((u + a, v + a) in joined for a in letters):
                    more.add((u, v))
                elif any((v, x) in joined for x in words if (u, x) in joined):
                    more.add((u, v))
                elif u and v and u[-1] == v[-1] and (u[:-1], v[:-1]) in joined:
                    more.add((u, v))
        if not more:
            return joined
        joined |= more
        joined |= {(v, u) for u, v in more}


def classes(letters, sample, k):
    """The classes of joined beginnings, each an ascending tuple, in the order of their first members."""
    joined = joined_pairs(letters, sample, k)
    words = beginnings(sample)
    found = []
    for word in words:
        together = tuple(other for other in words if (word, other) in joined)
        if together not in found:
            found.append(together)
    return found


def steps_from(words, k, most):
    """The words of at most `most` letters that one step makes from three of the words."""
    there = set(words)
    made = set()
    for one in there:
        for at in range(k, len(one) + 1):
            xv, w = one[:at], one[at:]
            for two in there:
                if two.endswith(w):
                    yv = two[:len(two) - len(w)]
                    if alike(xv, yv, k):
                        for three in there:
                            if three.startswith(xv):
                                word = yv + three[at:]
                                if len(word) <= most:
                                    made.add(word)
    return made


def rounds(sample, k, most):
    found = [tuple(sample)]
    words = set(sample)
    while True:
        fresh = steps_from(words, k, most) - words
        if not fresh:
            return tuple(found)
        found.append(in_order(fresh))
        words |= fresh


def is_good_row(letters, sample, k, joined, row):
    """Whether a row is good, and what it joins, where `joined` is a list of sets of joined beginnings."""
    words = set(beginnings(sample))

    def together(u, v):
        return u == v or any(u in group and v in group for group in joined)

    if row[0] == "ends":
        _, u, v = row
        return (u in sample and v in sample and alike(u, v, k)), (u, v)
    rule, u, v, a = row
    if u + a not in words or v + a not in words:
        return False, None
    if rule == "on":
        return together(u, v), (u + a, v + a)
    return together(u + a, v + a) and alike(u, v, k), (u, v)


def join(joined, u, v):
    """The list of sets, with u and v put into one."""
    mine = {u, v}
    others = []
    for group in joined:
        if group & mine:
            mine = mine | group
        else:
            others.append(group)
    return others + [mine]


def looked_states(least, k):
    """The looked states of a least machine, and the first words that lead to them, found word by word."""
    found = {}
    words = [""] if least[1] else []
    while words:
        fresh = []
        for word in words:
            pair = (state_behind(least, word), lead(word, k))
            if pair[0] is not None and pair not in found:
                found[pair] = word
                fresh.append(word)
        words = [word + letter for word in fresh for letter in least[0]]
    return found


class Wholes:
    """The looked states of least machines, one machine after another, and what the rules join of them."""

    def __init__(self, leasts, k):
        self.letters, self.k = leasts[0][0], k
        self.leads, self.to, self.ends, starts = [], {}, set(), []
        for least in leasts:
            pairs = looked_states(least, k)
            number = {pair: len(self.leads) + at for at, pair in enumerate(pairs)}
            starts.extend([number[pair] for pair in pairs if pair == (0, "")])
            for (state, word), at in number.items():
                self.leads.append(word)
                if state in least[2]:
                    self.ends.add(at)
                for letter, target in zip(least[0], least[1][state]):
                    if target is not None:
                        self.to[at, letter] = number[target, lead(word + letter, k)]
        self.numbers = range(len(self.leads))
        self.starts = [set(starts)] if starts else []

    def alike(self, s, t):
        return len(self.leads[s]) == self.k and self.leads[s] == self.leads[t]

    def is_good(self, joined, row):
        """Whether a row is good, and what it joins, where `joined` is a list of sets of joined numbers."""

        def together(s, t):
            return s == t or any(s in group and t in group for group in joined)

        rule, s, t = row[:3]
        if rule == "ends":
            return s in self.ends and t in self.ends and self.alike(s, t), (s, t)
        targets = self.to.get((s, row[3])), self.to.get((t, row[3]))
        if None in targets:
            return False, None
        if rule == "on":
            return together(s, t), targets
        return together(*targets) and self.alike(s, t), (s, t)

    def all_rows(self):
        for s, t in itertools.product(self.numbers, repeat=2):
            yield ("ends", s, t)
            for letter in self.letters:
                yield ("on", s, t, letter)
                yield ("back", s, t, letter)

    def joined_by(self, rows):
        """What good rows join, or None if one of them is not good."""
        joined = list(self.starts)
        for row in rows:
            good, pair = self.is_good(joined, row)
            if not good:
                return None
            joined = join(joined, *pair)
        return joined

    def classes(self):
        """The classes as a set of sets of numbers, by the rules as they are told."""
        joined = list(self.starts)
        while True:
            before = {frozenset(group) for group in joined}
            for row in self.all_rows():
                good, pair = self.is_good(joined, row)
                if good:
                    joined = join(joined, *pair)
            if {frozenset(group) for group in joined} == before:
                break
        return self.with_single(joined)

    def with_single(self, joined):
        groups = {at: frozenset((at,)) for at in self.numbers}
        for group in joined:
            for at in group:
                groups[at] = frozenset(group)
        return set(groups.values())

    def is_way(self, joined, word, way):
        def together(s, t):
            return s == t or any(s in group and t in group for group in joined)

        if len(way) != len(word) + 1 or any(at not in self.numbers for at in way):
            return False
        for at, letter in enumerate(word):
            target = self.to.get((way[at], letter))
            if target is None or not together(target, way[at + 1]):
                return False
        return together(way[0], 0) and way[-1] in self.ends
