"""Runs once more, told in another way than the package does: each thing to be done is a function of what follows.

GO: does steps, then what follows. ONWARD: what follows, given the open choices. FAULTS: what a fault leads to, given
its word; it knows the choices that its catch or last leaves open. CHOICES: None, or a pair (what to do, choices).
Each function returns the next one, so that nothing gets deep; a pair (end, choices) is where the run stops.
"""


class Model:

    def __init__(self, steps, cells):
        self.worth = dict(cells)
        self.words = []
        self.choices = None
        self.start = lambda: self.go(steps, lambda choices: (("answer",), choices), self.uncaught, None)

    def answer(self):
        move = self.start or (lambda: self.back(self.choices))
        self.start = None
        while callable(move):
            move = move()
        end, self.choices = move
        return end

    def uncaught(self, word):
        return (("fault", word), None)

    def back(self, choices):
        return (("none",), None) if choices is None else choices[0]

    def go(self, steps, onward, faults, choices):
        if not steps:
            return lambda: onward(choices)
        step, behind = steps[0], steps[1:]
        done = getattr(self, "do_" + step[0])
        return lambda: done(step, lambda now: self.go(behind, onward, faults, now), faults, choices)

    def choice(self, held, other, onward, faults, choices):
        kept = {cell: self.worth.get(cell, 0) for cell in held}

        def resume():
            self.worth.update(kept)
            return self.go(other, onward, faults, choices)

        return (resume, choices)

    def do_say(self, step, onward, faults, choices):
        self.words.append(step[1])
        return onward(choices)

    def do_set(self, step, onward, faults, choices):
        self.worth[step[1]] = step[2]
        return onward(choices)

    def do_add(self, step, onward, faults, choices):
        self.worth[step[1]] = self.worth.get(step[1], 0) + step[2]
        return onward(choices)

    def do_copy(self, step, onward, faults, choices):
        self.worth[step[1]] = self.worth.get(step[2], 0) + step[3]
        return onward(choices)

    def do_less(self, step, onward, faults, choices):
        _, cell, n, yes, no = step
        return self.go(yes if self.worth.get(cell, 0) < n else no, onward, faults, choices)

    def do_below(self, step, onward, faults, choices):
        _, cell, other, n, yes, no = step
        return self.go(yes if self.worth.get(cell, 0) < self.worth.get(other, 0) + n else no, onward, faults, choices)

    def do_times(self, step, onward, faults, choices):
        return self.go(list(step[2]) * step[1], onward, faults, choices)

    def do_hole(self, step, onward, faults, choices):
        return onward(choices)

    def do_fault(self, step, onward, faults, choices):
        return faults(step[1])

    def do_back(self, step, onward, faults, choices):
        return self.back(choices)

    def do_catch(self, step, onward, faults, choices):
        _, word, held, body, then = step
        kept = {cell: self.worth.get(cell, 0) for cell in held}

        def caught(other):
            if other != word:
                return faults(other)
            self.worth.update(kept)
            return self.go(then, onward, faults, choices)

        return self.go(body, onward, caught, choices)

    def do_last(self, step, onward, faults, choices):
        _, body, then = step

        def left(word):
            return self.go(then, lambda now: faults(word), faults, choices)

        return self.go(body, lambda now: self.go(then, onward, faults, now), left, choices)

    def do_either(self, step, onward, faults, choices):
        _, held, body, other = step
        return self.go(body, onward, faults, self.choice(held, other, onward, faults, choices))

    def do_whether(self, step, onward, faults, choices):
        _, held, body, then, other = step
        opened = self.choice(held, other, onward, faults, choices)
        return self.go(body, lambda now: self.go(then, onward, faults, choices), faults, opened)

    def do_each(self, step, onward, faults, choices):
        _, held, body, then = step
        end = self.choice(held, [], onward, faults, choices)

        def once(now):
            # then is done up to its first answer or its end; after both the body goes on.
            def again(*_):
                return self.back(now)
            return self.go(then, again, faults, (again, now))

        return self.go(body, once, faults, end)
