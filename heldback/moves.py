"""Moves: what a machine does with each instruction.

The frames are a chain of pairs (frame, frames below), and None where there is
none: so the choices can keep them without copies. The number of open choices
stands last in a frame of a mark, a catch or a last.
"""

from heldback.courses import close_beyond, stops


class Engine:
    """How far a machine has come."""

    def __init__(self, rows, memory):
        self.rows = rows
        self.memory = memory
        self.at = 0
        self.frames = None
        self.choices = []
        self.spoken = []
        self.begun = False
        self.end = None


def put_frame(engine, frame):
    """Puts a frame on top."""
    engine.frames = (frame, engine.frames)


def take_frame(engine):
    """Removes the frame on top, and returns it."""
    frame, engine.frames = engine.frames
    return frame


def move_say(engine, row):
    engine.spoken.append(row[1])


def move_set(engine, row):
    engine.memory.give(row[1], row[2])


def move_add(engine, row):
    engine.memory.give(row[1], engine.memory.store[row[1]] + row[2])


def move_copy(engine, row):
    engine.memory.give(row[1], engine.memory.store[row[2]] + row[3])


def move_unless(engine, row):
    cell, n, at = row[1:]
    if engine.memory.store[cell] >= n:
        engine.at = at


def move_beyond(engine, row):
    cell, other, n, at = row[1:]
    if engine.memory.store[cell] >= engine.memory.store[other] + n:
        engine.at = at


def move_go(engine, row):
    engine.at = row[1]


def move_open(engine, row):
    held, at = row[1:]
    engine.choices.append((at, engine.frames, engine.memory.keep(held)))


def move_back(engine, row):
    go_back(engine)


def go_back(engine):
    """Goes back to the choice that was opened last, or ends without a further answer."""
    if not engine.choices:
        engine.end = ("none",)
        return
    engine.at, engine.frames, kept = engine.choices.pop()
    engine.memory.put_back(kept)


def move_mark(engine, row):
    put_frame(engine, ("mark", len(engine.choices)))


def move_close(engine, row):
    close_beyond(engine, take_frame(engine)[-1])


def move_catch(engine, row):
    word, held, at = row[1:]
    put_frame(engine, ("catch mark", word, at, engine.memory.keep(held), len(engine.choices)))


def move_last(engine, row):
    put_frame(engine, ("last mark", row[1], len(engine.choices)))


def move_leave(engine, row):
    take_frame(engine)


def move_fault(engine, row):
    break_off(engine, row[1])


def move_again(engine, row):
    break_off(engine, take_frame(engine)[1])


def break_off(engine, word):
    """Does what a fault of this word does."""
    frames = engine.frames
    while frames is not None and not stops(frames[0], word):
        frames = frames[1]
    if frames is None:
        engine.end = ("fault", word)
        return
    frame, engine.frames = frames
    close_beyond(engine, frame[-1])
    if frame[0] == "catch mark":
        engine.at = frame[2]
        engine.memory.put_back(frame[3])
    else:
        engine.at = frame[1]
        put_frame(engine, ("word", word))


MOVES = {
    "say": move_say,
    "set": move_set,
    "add": move_add,
    "copy": move_copy,
    "unless": move_unless,
    "beyond": move_beyond,
    "go": move_go,
    "open": move_open,
    "back": move_back,
    "mark": move_mark,
    "close": move_close,
    "catch": move_catch,
    "last": move_last,
    "leave": move_leave,
    "fault": move_fault,
    "again": move_again,
}


def go_to_answer(engine):
    """Begins, or asks for the next answer; returns what the machine comes to."""
    if engine.begun:
        go_back(engine)
    engine.begun = True
    while engine.end is None and engine.rows[engine.at][0] != "answer":
        row = engine.rows[engine.at]
        engine.at = engine.at + 1
        move = MOVES[row[0]]
        move(engine, row)
    return ("answer",) if engine.end is None else engine.end
