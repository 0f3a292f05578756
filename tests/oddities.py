"""Values of all kinds, and the way in which every parameter is tried with wrong ones."""

from backseen.errors import BadValue


class OddText(str):
    pass


class OddTuple(tuple):
    pass


class OddInteger(int):
    pass


class Hostile:
    """Nothing can be asked of it."""

    def refuse(self, *rest):
        raise RuntimeError("asked")

    __eq__ = __ne__ = __lt__ = __gt__ = __le__ = __ge__ = __hash__ = __len__ = __iter__ = refuse
    __bool__ = __getitem__ = __contains__ = __index__ = __int__ = __str__ = __repr__ = refuse

    @property
    def __class__(self):
        raise RuntimeError("asked")


class HostileText(str):
    __eq__ = __ne__ = __lt__ = __gt__ = __hash__ = __len__ = __iter__ = __getitem__ = Hostile.refuse


class HostileTuple(tuple):
    __eq__ = __ne__ = __lt__ = __gt__ = __hash__ = __len__ = __iter__ = __getitem__ = Hostile.refuse


def nested(kind, deep=6000):
    """A tuple or a list in a tuple or a list, and so on, too deep to be compared or hashed."""
    value = kind(())
    for _ in range(deep):
        value = kind((value,))
    return value


def oddities():
    """Values that are nothing that any function takes as a parameter, but perhaps as a value to be judged."""
    return [
        True, False, -1, 1.0, float("nan"), float("inf"), 10 ** 5000, -(10 ** 5000), 2j, b"", b"ab", bytearray(b"a"),
        [], ["a"], [0], {}, {"a": 1}, set(), frozenset(("a",)), range(3), object(), len, int, ValueError("a"),
        "A", "\u00e9", "\ud800", "\x00", "a" * 100000 + "!", OddText("a"), OddTuple(("a",)), OddInteger(1), Hostile(),
        HostileText("ab"), HostileTuple(("ab",)), nested(tuple), nested(list), (nested(tuple),), (None,), (True,),
        ((),), ("a", None), ("a", nested(tuple)), ("a", Hostile()), (nested(tuple),) * 3, ("ab", ((True, None),), (0,)),
        ("ab", ((0, 0),), (False,)), ("ab", [(0, 0)], (0,)), ["ab", ((0, 0),), (0,)], (x for x in "ab"), iter(()),
    ]


def is_refused(function, arguments, name):
    """Whether the function refuses the arguments with the name of the parameter."""
    try:
        function(*arguments)
    except BadValue as error:
        return error.name == name and isinstance(error, ValueError)
    return False


def check_wrong(case, function, names, right, wrong):
    """Try each parameter with wrong values, alone and with wrong values behind it: the first wrong one is named.

    `wrong` has for each of the names the list of its wrong values, besides those that are wrong for all.
    """
    all_wrong = [wrong[name] + oddities() for name in names]
    for at, name in enumerate(names):
        for value in all_wrong[at]:
            arguments = list(right)
            arguments[at] = value
            case.assertTrue(is_refused(function, arguments, name), f"{function.__name__}: {name}")
            for later in range(at + 1, len(names)):
                for other in all_wrong[later][:6]:
                    arguments[later] = other
                    case.assertTrue(is_refused(function, arguments, name), f"{function.__name__}: {name} first")
                arguments[later] = right[later]


NAMES = ("must", "free", "inside", "outside", "narrow", "wide", "seen", "by", "on", "ends", "back")


def check_judge(case, judge, more=(), names=NAMES):
    """Try a judge with values of any kind: each time it answers False, and never raises anything.

    `judge` has the value as its only parameter; `more` are further values that are no evidence; `names` are words
    with which evidence may begin.
    """
    values = oddities() + [None, 0, 1, 12, "", "a", "ab", (), ("a",)] + list(more)
    for value in values:
        case.assertIs(judge(value), False)
        case.assertIs(judge((value,)), False)
        case.assertIs(judge((value, value)), False)
        case.assertIs(judge(((value,),)), False)
        case.assertIs(judge((value,) * 5), False)
    for name in names:
        for value in oddities():
            for many in range(1, 6):
                case.assertIs(judge((name,) + (value,) * many), False)
            case.assertIs(judge((name, (), value)), False)
            case.assertIs(judge((name, value, ())), False)
            case.assertIs(judge((name, (value,), (value,))), False)
            case.assertIs(judge((name, ((name, value, value, value),), (value,))), False)


LETTERS = ["", "ba", "aa", "aba", "abcde", "aB", "a1", "a b", None, 0, ("a", "b"), ("ab",)]
LOOKS = [None, "1", "", -1, 13, 10 ** 30, (1,)]
SAMPLES = [
    None, 0, "", "a", ("b", "a"), ("a", "a"), ("aa", "b"), ("c",), ("a", "c"), ("", ""), ("a", 1), (("a",),), ("A",),
    tuple("a" * many for many in range(64)), ("a" * 2001,), ("a" * 1000, "a" * 1001),
]
SHORT_SAMPLES = SAMPLES + [("a" * 13,), tuple("a" * many for many in range(13)), ("a", "b" * 13)]
WORDS = [None, 0, "c", "abc", "A", ("a",), ("a", "b")]
ASKED_WORDS = WORDS + ["a" * 501, "ab" * 250 + "a"]
MACHINES = [
    None, "", 0, ("ab", ((0, 0),)), ("ab", ((0, 0),), (0,), ()), ("ab", ((0, 0),), ()), ("ab", (), (0,)),
    ("ba", ((0, 0),), (0,)), ("", (), ()), ("ab", ((0,),), (0,)), ("ab", ((0, 0, 0),), (0,)), ("ab", ((0, 1),), (0,)),
    ("ab", ((0, -1),), (0,)), ("ab", ((0, 0),), (1,)), ("ab", ((0, 0),), (0, 0)), ("ab", ((0, 0),), [0]),
    ("ab", ((0, 0), (0, 0)), (0, 1)), ("ab", ((1, 0), (None, None)), (0,)),
    ("ab", ((2, 1), (None, 0), (0, None)), (0,)),
    ("ab", ((1, 0), (0, 1)), (1, 0)),
]
OTHERS = MACHINES + [("a", ((0,),), (0,)), ("abc", ((0, 0, 0),), (0,)), ("ac", ((0, 0),), (0,)), ("a", (), ())]
MACHINE_TUPLES = (
    [(machine,) for machine in MACHINES] + [(("ab", ((0, 0),), (0,)), machine) for machine in OTHERS]
    + [(), [("ab", ((0, 0),), (0,))], (("ab", ((0, 0),), (0,)),) * 3, ("ab", ((0, 0),), (0,)), (("a", (), ()),) * 4]
)
EVEN = ("ab", ((1, 0), (0, 1)), (0,))
EVERY = ("ab", ((0, 0),), (0,))
NONE = ("ab", (), ())


def chain(letters, many, ends=None):
    """The machine with so many states in a row, each with its first letter to the next one."""
    rows = tuple((at + 1 if at + 1 < many else None,) + (None,) * (len(letters) - 1) for at in range(many))
    return letters, rows, (many - 1,) if ends is None else ends


def circle(letters, many, ends=(0,), tail=0):
    """The machine with so many states in a circle, which all letters go along, behind so many states ahead of it."""
    whole = tail + many
    return letters, tuple((at + 1 if at + 1 < whole else tail,) * len(letters) for at in range(whole)), ends
