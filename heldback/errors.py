"""The errors that the package raises."""


def copied(thing):
    """A copy of any object, which later changes to the object do not reach."""
    if isinstance(thing, list):
        return [copied(item) for item in thing]
    if isinstance(thing, tuple):
        return tuple([copied(item) for item in thing])
    if isinstance(thing, dict):
        return {key: copied(thing[key]) for key in thing}
    return thing


class HeldError(ValueError):
    """What all errors of the package are."""


class BadPart(HeldError):
    """The thing at the path is not a step."""

    def __init__(self, path):
        super().__init__(f"no step stands at {path!r}")
        self.path = copied(path)


class NoPath(HeldError):
    """The path is not that of a step of the part."""

    def __init__(self, path):
        super().__init__(f"not the path of a step: {path!r}")
        self.path = copied(path)


class NotName(HeldError):
    """The key is not a name."""

    def __init__(self, key):
        super().__init__(f"not a name: {key!r}")
        self.key = copied(key)


class NotNumber(HeldError):
    """The value is not an integer."""

    def __init__(self, value):
        super().__init__(f"not an integer: {value!r}")
        self.value = copied(value)


class NotTruth(HeldError):
    """The value is neither True nor False."""

    def __init__(self, value):
        super().__init__(f"neither True nor False: {value!r}")
        self.value = copied(value)


class BadUse(HeldError):
    """The thing at the index of a use is not a dict from names to integers."""

    def __init__(self, index):
        super().__init__(f"not a dict from names to integers: {index!r}")
        self.index = copied(index)


class Over(HeldError):
    """The run has ended."""

    def __init__(self):
        super().__init__("the run has ended")


class Uncaught(HeldError):
    """The run ended by a fault with the word."""

    def __init__(self, word):
        super().__init__(f"a fault that nothing catches: {word!r}")
        self.word = copied(word)


class NoAnswer(HeldError):
    """The run ended without an answer."""

    def __init__(self):
        super().__init__("the run ended without an answer")


class BadWish(HeldError):
    """The object is not a wish."""

    def __init__(self):
        super().__init__("not a wish")


class NoSave(HeldError):
    """The thing is not a save of the part."""

    def __init__(self, save):
        super().__init__(f"not a save of the part: {save!r}")
        self.save = copied(save)


class NoSquare(HeldError):
    """The thing is not a square of the table."""

    def __init__(self, square):
        super().__init__(f"not a square of the table: {square!r}")
        self.square = copied(square)


class UnlikeTables(HeldError):
    """Two tables have unlike cells or unlike ways."""

    def __init__(self):
        super().__init__("the tables have unlike cells or unlike ways")


class NoWay(HeldError):
    """The table does not have the way."""

    def __init__(self, way):
        super().__init__(f"a way that the table does not have: {way!r}")
        self.way = copied(way)


class Uneven(HeldError):
    """Two steps of the way do not hold the same cells."""

    def __init__(self, way):
        super().__init__(f"a way whose steps hold unlike cells: {way!r}")
        self.way = copied(way)


class BadPile(HeldError):
    """The thing at the index is not a layer, or stood before."""

    def __init__(self, index):
        super().__init__(f"no layer, or one that stood before, at {index!r}")
        self.index = copied(index)


class NoRule(HeldError):
    """The object is not the name of a rule."""

    def __init__(self, rule):
        super().__init__(f"not the name of a rule: {rule!r}")
        self.rule = copied(rule)


class NoFit(HeldError):
    """The step at the path does not fit the rule."""

    def __init__(self, rule, path):
        super().__init__(f"the rule {rule!r} does not fit at {path!r}")
        self.rule = copied(rule)
        self.path = copied(path)


class BadText(HeldError):
    """No text of a part begins with the lines up to this one."""

    def __init__(self, line):
        super().__init__(f"no text of a part begins so, up to line {line!r}")
        self.line = copied(line)
