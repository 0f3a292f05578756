"""Tables of any size: rows, ends and a start, gone through and made least without any limit.

A row has one item for each letter, the index of a row or None, as the rows of a machine have.
"""


def first_word_to(start, following, is_wanted):
    """Return the first word that leads from start to something wanted, or None if none does.

    `following` gives the pairs of a letter and what it leads to, with the letters in ascending order.
    """
    came = {start: None}
    queue = [start]
    at = 0
    while at < len(queue):
        here = queue[at]
        at += 1
        if is_wanted(here):
            return word_that_came(came, here)
        for letter, there in following(here):
            if there not in came:
                came[there] = (here, letter)
                queue.append(there)
    return None


def word_that_came(came, here):
    """Return the word along which `here` was come to: `came` has what was ahead of it, and the letter between."""
    backward = []
    while came[here] is not None:
        here, letter = came[here]
        backward.append(letter)
    return "".join(backward[::-1])


def order_from(rows, start):
    """Return the list of the rows that are come to from start, in the order of their first words."""
    met = {start: True}
    order = [start]
    at = 0
    while at < len(order):
        row = rows[order[at]]
        at += 1
        for target in row:
            if target is not None and target not in met:
                met[target] = True
                order.append(target)
    return order


def sources_by_letter(rows, many):
    """Return, for each of the `many` letters and each row, the list of the rows from which the letter leads to it."""
    sources = [[[] for _ in rows] for _ in range(many)]
    for source, row in enumerate(rows):
        for letter, target in enumerate(row):
            if target is not None:
                sources[letter][target].append(source)
    return sources


def letters_to_end(rows, ends):
    """Return, for each row, the number of letters of the shortest word from it to an end, or None if there is none."""
    sources = [[] for _ in rows]
    for source, row in enumerate(rows):
        for target in row:
            if target is not None:
                sources[target].append(source)
    many = [None for _ in rows]
    queue = list(ends)
    for end in ends:
        many[end] = 0
    at = 0
    while at < len(queue):
        here = queue[at]
        at += 1
        for source in sources[here]:
            if many[source] is None:
                many[source] = many[here] + 1
                queue.append(source)
    return many


def trimmed(rows, ends, start):
    """Return the rows and ends that matter to the language, numbered by their first words; row 0 is the start."""
    to_end = letters_to_end(rows, ends)
    if start is None:
        return [], []
    order = [at for at in order_from(rows, start) if to_end[at] is not None]
    number = {at: new for new, at in enumerate(order)}
    kept = [[number.get(target) for target in rows[at]] for at in order]
    is_end = {end: True for end in ends}
    return kept, [number[at] for at in order if at in is_end]


class Blocks:
    """The rows of a trimmed table, parted into blocks until rows of one block have the same rest.

    This is the way of Hopcroft: a block that parts others is gone through again only in its smaller half.
    """

    def __init__(self, rows, ends, many):
        self.sources = sources_by_letter(rows, many)
        self.block_of = [0 for _ in rows]
        for end in ends:
            self.block_of[end] = 1
        self.members = [{}, {}]
        for at, block in enumerate(self.block_of):
            self.members[block][at] = True
        # No letter leads nowhere from a block and somewhere from another one without parting them, as both wait here.
        self.queue = [0, 1]
        self.waiting = {0: True, 1: True}
        while len(self.queue) > 0:
            self.part_by(self.queue.pop())

    def part_by(self, block):
        """Part all blocks of which only some rows lead into this block."""
        del self.waiting[block]
        inside = list(self.members[block])
        for sources in self.sources:
            hits = {}
            for target in inside:
                for source in sources[target]:
                    hits.setdefault(self.block_of[source], []).append(source)
            for parted in hits:
                if len(hits[parted]) < len(self.members[parted]):
                    self.part(parted, hits[parted])

    def part(self, block, leaving):
        """Give the leaving rows of the block a block of their own."""
        fresh = len(self.members)
        self.members.append({at: True for at in leaving})
        staying = self.members[block]
        for at in leaving:
            del staying[at]
            self.block_of[at] = fresh
        due = fresh if block in self.waiting or len(leaving) <= len(staying) else block
        self.waiting[due] = True
        self.queue.append(due)


def least_machine(letters, rows, ends, start):
    """Return the least machine of the table, however many states it has."""
    rows, ends = trimmed(rows, ends, start)
    block_of = Blocks(rows, ends, len(letters)).block_of
    number = {}
    chosen = []
    # The rows stand in the order of their first words, so the blocks are met in the order of theirs.
    for at, block in enumerate(block_of):
        if block not in number:
            number[block] = len(number)
            chosen.append(at)
    least_rows = [
        tuple([None if target is None else number[block_of[target]] for target in rows[at]]) for at in chosen
    ]
    is_end = {at: True for at in ends}
    least_ends = [number[block_of[at]] for at in chosen if at in is_end]
    return letters, tuple(least_rows), tuple(least_ends)
