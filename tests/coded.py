"""[24] to [26], told in another way than the package does: code by labels, and a machine that copies all that it keeps."""

from samples import tupled


class Label:
    """A place in the code."""


def placed(steps):
    """The code of steps, with labels where addresses are meant, and labels ahead of the places that they stand for."""
    return [row for step in tupled(steps) for row in placed_step(step)]


def placed_step(step):
    word, *items = step
    one, two = Label(), Label()
    if word == "less":
        cell, n, yes, no = items
        return [("unless", cell, n, one), *placed(yes), ("go", two), one, *placed(no), two]
    if word == "below":
        cell, other, n, yes, no = items
        return [("beyond", cell, other, n, one), *placed(yes), ("go", two), one, *placed(no), two]
    if word == "times":
        return [row for _ in range(items[0]) for row in placed(items[1])]
    if word == "catch":
        word, held, body, then = items
        return [("catch", word, held, one), *placed(body), ("leave",), ("go", two), one, *placed(then), two]
    if word == "last":
        body, then = items
        return [("last", one), *placed(body), ("leave",), *placed(then), ("go", two), one, *placed(then), ("again",), two]
    if word == "either":
        held, body, other = items
        return [("open", held, one), *placed(body), ("go", two), one, *placed(other), two]
    if word == "whether":
        held, body, then, other = items
        return [("mark",), ("open", held, one), *placed(body), ("close",), *placed(then), ("go", two), one, ("leave",),
                *placed(other), two]
    if word == "each":
        held, body, then = items
        return placed_step(("either", held, (*body, ("whether", (), then, (), ()), ("back",)), ()))
    return [] if word == "hole" else [step]


def code_again(steps):
    """The code of steps, with the addresses in the places of the labels."""
    rows = [*placed(steps), ("answer",)]
    places, at = {}, 0
    for row in rows:
        if isinstance(row, Label):
            places[row] = at
        else:
            at += 1
    return [tuple(places[item] if isinstance(item, Label) else item for item in row)
            for row in rows if not isinstance(row, Label)]


class Runner:
    """A machine that runs code, with a trail or without one; it copies its frames into each choice."""

    def __init__(self, rows, cells, trail):
        self.rows = rows
        self.worth = dict(cells)
        self.trail = [] if trail else None
        self.frames = []
        self.choices = []
        self.words = []
        self.at = 0
        self.end = None
        self.asked = False

    def give(self, cell, n):
        if self.trail is not None:
            self.trail.append((cell, self.worth.get(cell, 0)))
        self.worth[cell] = n

    def kept(self, held):
        if self.trail is not None:
            return {"held": held, "length": len(self.trail)}
        return {"worth": {cell: self.worth[cell] for cell in held}}

    def put_back(self, kept):
        if "worth" in kept:
            self.worth.update(kept["worth"])
            return
        for at in range(len(self.trail) - 1, kept["length"] - 1, -1):
            if self.trail[at][0] in kept["held"]:
                cell, value = self.trail.pop(at)
                self.worth[cell] = value

    def answer(self):
        if self.asked:
            self.back()
        self.asked = True
        while self.end is None:
            row = self.rows[self.at]
            if row == ("answer",):
                return row
            self.at += 1
            getattr(self, "do_" + row[0], self.change)(*row)
        return self.end

    def change(self, word, cell, n, more=0):
        self.give(cell, {"set": lambda: n, "add": lambda: self.worth[cell] + n, "copy": lambda: self.worth[n] + more}[word]())

    def do_say(self, _, word):
        self.words.append(word)

    def do_unless(self, _, cell, n, at):
        if not self.worth[cell] < n:
            self.at = at

    def do_beyond(self, _, cell, other, n, at):
        if not self.worth[cell] < self.worth[other] + n:
            self.at = at

    def do_go(self, _, at):
        self.at = at

    def do_open(self, _, held, at):
        self.choices.append({"at": at, "frames": list(self.frames), "kept": self.kept(held)})

    def do_back(self, _):
        self.back()

    def back(self):
        if not self.choices:
            self.end = ("none",)
            return
        choice = self.choices.pop()
        self.at, self.frames = choice["at"], list(choice["frames"])
        self.put_back(choice["kept"])

    def do_mark(self, _):
        self.frames.append({"kind": "mark", "number": len(self.choices)})

    def do_close(self, _):
        self.choices = self.choices[:self.frames.pop()["number"]]

    def do_catch(self, _, word, held, at):
        self.frames.append({"kind": "catch", "word": word, "at": at, "kept": self.kept(held), "number": len(self.choices)})

    def do_last(self, _, at):
        self.frames.append({"kind": "last", "at": at, "number": len(self.choices)})

    def do_leave(self, _):
        self.frames.pop()

    def do_fault(self, _, word):
        while self.frames:
            frame = self.frames.pop()
            if frame["kind"] == "last" or (frame["kind"] == "catch" and frame["word"] == word):
                self.choices = self.choices[:frame["number"]]
                if frame["kind"] == "catch":
                    self.put_back(frame["kept"])
                else:
                    self.frames.append({"kind": "fault", "word": word})
                self.at = frame["at"]
                return
        self.end = ("fault", word)

    def do_again(self, _):
        self.do_fault("fault", self.frames.pop()["word"])
