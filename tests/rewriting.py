"""[27], [28], told in another way than the package does: each row of the table as a pattern over the rest of a list."""

from samples import all_paths, lists_within

NAMES = ["bare", "breaks", "cut", "empty", "fails", "join", "known", "only", "same", "spread", "tail", "turn", "unroll"]


def stands_in(steps, wanted):
    return any(step in wanted for _, step in all_paths(steps))


def bare(rest):
    match rest:
        case [("last", a, ()), *more]:
            return [*a, *more]
        case [("catch", w, _, a, _), *more] if not stands_in(a, [("hole",), ("fault", w)]):
            return [*a, *more]


def breaks(rest):
    match rest:
        case [("either", _, (("fault", w), *_), _) | ("whether", _, (("fault", w), *_), _, _), *more]:
            return [("fault", w), *more]
        case [("catch", v, _, (("fault", w), *_), a), *more]:
            return [*a, *more] if v == w else [("fault", w), *more]
        case [("last", (("fault", w), *_), a), *more]:
            return [*a, ("fault", w), *more]


def cut(rest):
    match rest:
        case [(("fault", _) | ("back",)) as step, _, *_]:
            return [step]


def empty(rest):
    match rest:
        case [("add", _, 0) | ("catch", _, _, (), _) | ("each", _, (), ()), *more]:
            return more
        case [("copy", c, d, 0), *more] if c == d:
            return more
        case [("last", (), a) | ("whether", _, (), a, _), *more]:
            return [*a, *more]


def fails(rest):
    match rest:
        case [("either", _, (("back",), *_), a) | ("whether", _, (("back",), *_), _, a), *more]:
            return [*a, *more]


def join(rest):
    match rest:
        case [(("set" | "add" | "copy"), c, *_), ("set", d, _) as second, *more] if c == d:
            return [second, *more]
        case [(("set" | "add" | "copy"), c, *_), ("copy", d, e, _) as second, *more] if c == d and e != c:
            return [second, *more]
        case [(("set" | "add" | "copy") as word, c, *of, m), ("add", d, n), *more] if c == d:
            return [(word, c, *of, m + n), *more]


def known(rest):
    match rest:
        case [("set", c, n) as step, ("less", d, m, a, b), *more] if c == d:
            return [step, *(a if n < m else b), *more]


def only(rest):
    match rest:
        case [("either", (), a, (("back",), *_)), *more]:
            return [*a, *more]


def same(rest):
    match rest:
        case [("less", _, _, a, b) | ("below", _, _, _, a, b), *more] if a == b:
            return [*a, *more]


def spread(rest):
    match rest:
        case [("either" | "less" | "below", *items, a, b) as step, _, *_]:
            more = tuple(rest[1:])
            return [(step[0], *items, a + more, b + more)]


def tail(rest):
    match rest:
        case [("either" | "less" | "below", *items, (*a, one), (*b, other)) as step, *more] if one == other:
            return [(step[0], *items, tuple(a), tuple(b)), one, *more]


def turn(rest):
    match rest:
        case [("either", h, (("either", g, a, b),), c), *more] if h == g:
            return [("either", h, a, (("either", h, b, c),)), *more]


def unroll(rest):
    match rest:
        case [("times", n, a), *more]:
            return [*(a * n), *more]


RULES = {rule.__name__: rule for rule in (bare, breaks, cut, empty, fails, join, known, only, same, spread, tail, turn, unroll)}


def at_path(steps, path, work):
    """The steps, where what work makes of it stands in the place of the rest of the list from a path on; or None."""
    if len(path) == 1:
        made = work(list(steps[path[0]:]))
        return None if made is None else (*steps[:path[0]], *made)
    step = steps[path[0]]
    lists = lists_within(step)
    inner = at_path(lists[path[1]], path[2:], work)
    if inner is None:
        return None
    lists[path[1]] = inner
    return (*steps[:path[0]], (*step[:len(step) - len(lists)], *lists), *steps[path[0] + 1:])


def fitting_again(steps):
    return sorted((path, rule) for path, _ in all_paths(steps) for rule in NAMES
                  if at_path(steps, path, RULES[rule]) is not None)


def short_again(steps, count=None):
    """The first pair at a time; count, if it is a list, gets the pairs that were applied."""
    while True:
        pairs = [pair for pair in fitting_again(steps) if pair[1] not in ("spread", "turn", "unroll")]
        if not pairs:
            return steps
        if count is not None:
            count.append(pairs[0])
        steps = at_path(steps, pairs[0][0], RULES[pairs[0][1]])
