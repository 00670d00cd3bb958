"""Makes parts; the same ones at each time, for the chance counts on a seed."""

import random

from samples import BIG, lists_within

CELLS = ["a", "b", "c"]
WORDS = ["u", "v"]
KINDS = ["say", "set", "add", "copy", "less", "below", "times", "fault", "catch", "last", "back", "either", "whether",
         "each", "hole"]
LEAVES = ["say", "set", "add", "copy", "fault", "back", "hole", "say", "add"]
# With these most parts have several answers, and go several ways.
LIVELY_KINDS = ["say", "set", "add", "copy", "less", "less", "below", "below", "either", "either", "whether", "each",
                "catch", "last", "times"]
LIVELY_LEAVES = ["say", "say", "set", "add", "add", "copy"]


class Maker:

    def __init__(self, seed):
        self.chance = random.Random(seed)
        self.said = 0
        self.room = 0
        self.kinds = KINDS
        self.leaves = LEAVES

    def part(self):
        self.room = 7
        return self.steps(0)

    def small_part(self):
        """A part within the limits of [5] for trees."""
        while True:
            self.room = 3
            steps = self.steps(0)
            if is_small(steps):
                return steps

    def lively_part(self):
        """A part within the limits of [5] for trees, which has most often several answers and ways."""
        while True:
            self.room = 3
            self.kinds, self.leaves = LIVELY_KINDS, LIVELY_LEAVES
            steps = [self.step(0) for _ in range(self.chance.choice((3, 4, 5, 6)))]
            self.kinds, self.leaves = KINDS, LEAVES
            _, choices, tests = counted(steps)
            if is_small(steps) and choices and tests:
                return steps

    def frame(self):
        """A part with holes, which has further cells and words."""
        self.room = 4
        steps = [self.step(0) for _ in range(self.chance.choice((2, 3, 4)))]
        for _ in range(self.chance.choice((1, 1, 2))):
            spot = self.chance.choice(spots(steps))
            rows = rows_at(steps, spot)
            at = self.chance.randint(0, len(rows))
            counting = [("add", "count", 1), ("less", "count", 3, [("say", "again"), ("back",)], [("say", "done")])]
            rows[at:at] = [("hole",), *(counting if self.chance.random() < 0.4 else [])]
            steps = with_rows_at(steps, spot, rows)
        return steps

    def steps(self, depth):
        return [self.step(depth) for _ in range(self.chance.choice((0, 1, 2, 2, 3) if depth else (2, 3, 4, 5)))]

    def number(self):
        return self.chance.choice([-2, -1, 0, 1, 2, 3, BIG, -BIG] if self.chance.random() < 0.1 else [-1, 0, 1, 2])

    def held(self):
        return self.chance.sample(CELLS, self.chance.choice((0, 1, 1, 2, 3)))

    def step(self, depth):
        word = self.chance.choice(self.kinds if depth < 4 and self.room > 0 else self.leaves)
        if word in ("either", "whether", "each", "times"):
            self.room -= 1
        cell, other, inner = self.chance.choice(CELLS), self.chance.choice(CELLS), depth + 1
        if word == "say":
            self.said += 1
            return ("say", "abcdefghijklmnopqrstuvwxyz"[self.said % 26])
        if word in ("set", "add"):
            return (word, cell, self.number())
        if word == "copy":
            return (word, cell, other, self.number())
        if word == "less":
            return (word, cell, self.number(), self.steps(inner), self.steps(inner))
        if word == "below":
            return (word, cell, other, self.number(), self.steps(inner), self.steps(inner))
        if word == "times":
            return (word, self.chance.choice((0, 1, 2, 2, 3)), self.steps(inner))
        if word == "fault":
            return (word, self.chance.choice(WORDS))
        if word == "catch":
            return (word, self.chance.choice(WORDS), self.held(), self.steps(inner), self.steps(inner))
        if word == "last":
            return (word, self.steps(inner), self.steps(inner))
        if word in ("either", "each"):
            return (word, self.held(), self.steps(inner), self.steps(inner))
        if word == "whether":
            return (word, self.held(), self.steps(inner), self.steps(inner), self.steps(inner))
        return (word,)

    def setting(self, cells, worths):
        """A dict for a use, which has most of the cells."""
        return {cell: self.chance.choice(worths) for cell in cells if self.chance.random() < 0.8}

    def use(self, cells=CELLS, worths=(-2, -1, 0, 1, 2, 3)):
        return [self.setting(cells, worths) for _ in range(self.chance.choice((1, 2, 3, 6, 12)))]


def counted(steps):
    """How many steps, choices and tests there are; what stands in a times counts as often as it is repeated."""
    many = [0, 0, 0]
    for step in steps:
        inner = [counted(rows) for rows in lists_within(step)]
        times = step[1] if step[0] == "times" else 1
        for at in range(3):
            many[at] += times * sum(row[at] for row in inner)
        many[0] += 1
        many[1] += step[0] in ("either", "whether", "each")
        many[2] += step[0] in ("less", "below")
    return many


def is_small(steps):
    """Whether the steps are within the limits of [5] for trees."""
    many, choices, tests = counted(steps)
    return many <= 80 and choices <= 4 and tests * 2 ** choices <= 8


def spots(steps, ahead=()):
    """The ways to all lists of steps: () for the steps themselves, and else ((index, number of the list), ..)."""
    found = [ahead]
    for at, step in enumerate(steps):
        for number, rows in enumerate(lists_within(step)):
            found.extend(spots(rows, ahead + ((at, number),)))
    return found


def rows_at(steps, spot):
    """The list of steps to which a way leads."""
    for at, number in spot:
        steps = lists_within(steps[at])[number]
    return list(steps)


def with_rows_at(steps, spot, rows):
    """The steps with other rows in the place of the list to which a way leads."""
    if not spot:
        return list(rows)
    (at, number), behind = spot[0], spot[1:]
    step = list(steps[at])
    # In each kind of step its lists stand last.
    place = len(step) - len(lists_within(step)) + number
    step[place] = with_rows_at(step[place], behind, rows)
    return [*steps[:at], tuple(step), *steps[at + 1:]]


def told_otherwise(maker, steps):
    """Steps that do the same, changed at one place; whatever is put in does nothing, or what was there."""
    chance = maker.chance
    spot = chance.choice(spots(steps))
    rows = rows_at(steps, spot)
    start = chance.randint(0, len(rows))
    stop = chance.randint(start, min(len(rows), start + 2))
    inner = rows[start:stop]
    cell = chance.choice(CELLS)
    nothing = chance.choice([
        [("hole",)], [("add", cell, 0)], [("copy", cell, cell, 0)], [("times", 0, maker.steps(3))],
        [("times", 3, [("hole",)])], [("catch", "u", maker.held(), [], [("say", "never")])],
        [("catch", "u", [], [("fault", "u")], [])], [("each", maker.held(), [], [])], [("last", [], [])],
        [("each", maker.held(), [("back",)], [("say", "never")])], [("either", [], [], [("back",)])],
        [("less", cell, 1, [], [])],
    ])
    other = chance.choice([
        nothing + inner, inner + nothing, [("times", 1, inner)], [("last", inner, [])], [("last", [], inner)],
        [("catch", "noword", maker.held(), inner, [("say", "never")])], [("either", maker.held(), [("back",)], inner)],
        [("either", [], inner, [("back",)])], [("whether", maker.held(), [("back",)], [("say", "never")], inner)],
        [("whether", maker.held(), [], inner, [("say", "never")])],
        [("less", cell, maker.number(), inner, inner)], [("below", cell, cell, 1, inner, [("say", "never")])],
        [("catch", "noword", [], [("last", [("fault", "noword")], [])], inner)],
        [("set", cell, 1), *inner] if inner and inner[0][:2] == ("set", cell) else inner + nothing,
    ])
    return with_rows_at(steps, spot, rows[:start] + list(other) + rows[stop:])


def changed_a_little(maker, steps):
    """Steps that are changed at one place, so that they often do something else."""
    chance = maker.chance
    spot = chance.choice(spots(steps))
    rows = rows_at(steps, spot)
    if not rows or chance.random() < 0.3:
        at = chance.randint(0, len(rows))
        return with_rows_at(steps, spot, rows[:at] + [maker.step(4)] + rows[at:])
    at = chance.randrange(len(rows))
    step = list(rows[at])
    place = chance.randrange(len(step))
    if place and step[0] != "times" and isinstance(step[place], int):
        step[place] += chance.choice((-1, 1))
    elif place and isinstance(step[place], str):
        step[place] = chance.choice(WORDS if step[0] in ("fault", "catch") else CELLS)
    elif step[0] in ("catch", "either", "whether", "each"):
        held = 2 if step[0] == "catch" else 1
        step[held] = maker.held()
    else:
        return with_rows_at(steps, spot, rows[:at] + rows[at + 1:])
    return with_rows_at(steps, spot, rows[:at] + [tuple(step)] + rows[at + 1:])
