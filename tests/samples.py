"""Things that several tests use: objects of all kinds, steps, and short ways to run them."""

from heldback.parts import Part
from heldback.runs import Run

BIG = 10 ** 30 - 1

GOOD_NAMES = ["a", "z", "q", "abcdefgh", "stuvwxyz", "back", "hole", "say"]
BAD_NAMES = [
    "", "abcdefghi", "A", "Ab", "aB", "a1", "1", "a b", " a", "a ", "a\n", "a_b", "a-b", "`", "{", "a" * 4000,
    None, True, False, 0, 1, -1, BIG, [], (), ["a"], ("a",), [["a"]], {}, {"a": 1},
]
GOOD_INTEGERS = [0, 1, -1, 2, 3, 4, 77, BIG, -BIG]
BAD_INTEGERS = [True, False, None, "", "1", "one", [], (), [1], (1,), {}, {1: 1}]
GOOD_REPEATS = [0, 1, 2, 3]
BAD_REPEATS = BAD_INTEGERS + [-1, 4, 5, BIG, -BIG]
GOOD_STOPS = ["a", "abcdefgh", "say", "hole"]
BAD_STOPS = BAD_NAMES + ["back"]
GOOD_HELD = [[], (), ["a"], ("a",), ["b", "a"], ("c", "a", "b"), ["back", "say"]]
BAD_HELD = [
    None, True, False, 0, 3, "", "a", "ab", {}, {"a": 1}, ["a", "a"], ("a", "a"), ("a", "b", "a"), ["A"], ["a", ""],
    [1], [0, 0], [True], [None], [["a"]], [("a",)], ("a", {}), [[]], ["abcdefghi"], ["a", "b", "c", "d", "d"],
]
GOOD_LISTS = [[], (), [("hole",)], (["hole"],), [["say", "a"], ("back",)]]
BAD_LISTS = [None, True, False, 0, 1, -3, BIG, "", "a", "hole", "back", {}, {"say": "a"}, {0: ("hole",)}]

GOOD = {
    "name": GOOD_NAMES,
    "integer": GOOD_INTEGERS,
    "repeats": GOOD_REPEATS,
    "stop": GOOD_STOPS,
    "held": GOOD_HELD,
    "list": GOOD_LISTS,
}
BAD = {
    "name": BAD_NAMES,
    "integer": BAD_INTEGERS,
    "repeats": BAD_REPEATS,
    "stop": BAD_STOPS,
    "held": BAD_HELD,
    "list": BAD_LISTS,
}

# For each kind of step the kinds of the items behind its word.
SHAPES = {
    "say": ["name"],
    "set": ["name", "integer"],
    "add": ["name", "integer"],
    "copy": ["name", "name", "integer"],
    "less": ["name", "integer", "list", "list"],
    "below": ["name", "name", "integer", "list", "list"],
    "times": ["repeats", "list"],
    "fault": ["stop"],
    "catch": ["stop", "held", "list", "list"],
    "last": ["list", "list"],
    "back": [],
    "either": ["held", "list", "list"],
    "whether": ["held", "list", "list", "list"],
    "each": ["held", "list", "list"],
    "hole": [],
}

# Objects that are not steps, whatever stands around them.
NO_STEPS = [
    None, True, False, 0, 1, -5, BIG, "", "a", "say", "hole", "back", "say a", {}, {"say": "a"}, {0: "hole"},
    [], (), [[]], [()], ((),), ["say"], ("say",), ("SAY", "a"), ("says", "a"), ("jump",), ("", "a"), ("hole ",),
    (None,), (0,), (True,), (["hole"],), [("hole",)], (("say",), "a"), ({},), ({"hole": 1},), ("hole", ()),
    ("hole", None), ("back", "a"), ("back", []), ["say", "a", "b"], ("a", "say"), [[("hole",)]],
    ("answer",), ("catch mark", "a", (), [], 0), ("last mark", (), 0), ("whether mark", (), 0), ("open", [], 0),
]

# Objects of all kinds, none of which is a name, an integer or a dict.
ANYTHING = [
    None, True, False, "", "A", "two words", [], (), [1], (1, 2), [True], [None, [(), {}]], ("a", ["b"]), [{"a": []}],
]


def steps_of_each_kind():
    """One good step of each kind, by its word."""
    first = {kind: GOOD[kind][0] for kind in GOOD}
    first["list"] = [("say", "a"), ["hole"]]
    first["repeats"] = 2
    return {word: (word, *[first[kind] for kind in SHAPES[word]]) for word in SHAPES}


def lists_within(step):
    """The lists of steps of a step."""
    return [item for kind, item in zip(SHAPES[step[0]], step[1:]) if kind == "list"]


def all_paths(steps, ahead=()):
    """The pairs of the path and the step for all steps at all depths, in their order."""
    found = []
    for at, step in enumerate(steps):
        path = ahead + (at,)
        found.append((path, step))
        for number, inner in enumerate(lists_within(step)):
            found.extend(all_paths(inner, path + (number,)))
    return found


def tupled(thing):
    """The thing with tuples in the place of lists."""
    return tuple(tupled(item) for item in thing) if isinstance(thing, (list, tuple)) else thing


def listed(thing):
    """The thing with lists in the place of tuples."""
    return [listed(item) for item in thing] if isinstance(thing, (list, tuple)) else thing


def ends_of(run, most=50):
    """What the run comes to, again and again, up to its end."""
    ends = []
    while run.ended is None and len(ends) < most:
        ends.append(run.answer())
    return ends


def told(steps, cells=None, most=50):
    """What a run of the steps tells: for each answer and its end the end, the words since, and the cells."""
    run = Run(Part(steps), cells)
    tale = []
    before = 0
    while run.ended is None and len(tale) < most:
        end = run.answer()
        words = run.said()
        tale.append((end, words[before:], dict(run.cells())))
        before = len(words)
    return tale


def words_of(steps, cells=None):
    """The words that a run of the steps says up to its end, joined by blanks."""
    run = Run(Part(steps), cells)
    ends_of(run)
    return " ".join(run.said())


# Nested in every way, for paths and for what a part names.
NESTED = [
    ("say", "one"),
    ("less", "c", 3, [("set", "d", 1), ("times", 2, [("add", "e", 1), ("hole",)])], [("copy", "f", "g", -1)]),
    ("catch", "w", ["h", "c"], [("fault", "w"), ("last", [("fault", "v")], [("say", "two")])], [("say", "one")]),
    ("whether", ["j"], [("back",)], [("below", "k", "m", 0, [], [("hole",)])],
     [("each", [], [("either", ["n"], [], [("say", "zwei")])], [("catch", "u", [], [], [])])]),
    ("hole",),
]
