"""[29], [30]: the texts of parts, reading them, and all ways in which a text can be wrong."""

import itertools
import random
import unittest

from heldback.errors import BadText
from heldback.parts import Part
from heldback.texts import read, text
from maker import Maker
from samples import BIG, GOOD_NAMES, NESTED, listed, steps_of_each_kind
from written import KEYWORDS, first_bad_line, text_again

X, Y, Z, HOLE, BACK = ("say", "x"), ("say", "y"), ("say", "z"), ("hole",), ("back",)


class TextTest(unittest.TestCase):

    def check(self, steps, *lines):
        """These are the lines of the text of the steps."""
        written = "\n".join(lines)
        for given in (steps, listed(steps)):
            self.assertEqual(text(Part(given)), written)
        found = read(written)
        self.assertIs(type(found), Part)
        self.assertEqual(found, Part(steps))
        self.assertEqual(written, text_again(steps))
        self.assertIsNone(first_bad_line(written))

    def bad(self, line, *lines):
        """These lines are no text, and this line is told."""
        written = "\n".join(lines)
        with self.assertRaises(BadText) as held:
            read(written)
        self.assertEqual(held.exception.line, line, lines)
        self.assertIs(type(held.exception.line), int)
        self.assertEqual(first_bad_line(written), line, lines)


class TestText(TextTest):

    def test_the_empty_part(self):
        self.assertEqual(text(Part([])), "")
        self.check([])

    def test_steps_of_one_line(self):
        self.check([X], "say x")
        self.check([("set", "c", 4)], "set c 4")
        self.check([("add", "c", -12)], "add c -12")
        self.check([("copy", "c", "d", -3)], "copy c d -3")
        self.check([("fault", "w")], "fault w")
        self.check([BACK], "back")
        self.check([HOLE], "hole")
        self.check([X, HOLE, BACK, ("set", "c", 0)], "say x", "hole", "back", "set c 0")

    def test_less_and_below(self):
        self.check([("less", "c", 3, [X, Y], [Z])], "less c 3", "  say x", "  say y", "else", "  say z")
        self.check([("less", "c", 3, [], [])], "less c 3", "else")
        self.check([("below", "c", "d", -3, [], [Z]), X], "below c d -3", "else", "  say z", "say x")
        self.check([("below", "c", "d", 0, [Z], []), X], "below c d 0", "  say z", "else", "say x")

    def test_times(self):
        for many in range(4):
            self.check([("times", many, [X, Y]), Z], f"times {many}", "  say x", "  say y", "say z")
            self.check([("times", many, []), Z], f"times {many}", "say z")

    def test_catch(self):
        self.check([("catch", "w", [], [X], [Y])], "catch w", "  say x", "then", "  say y")
        self.check([("catch", "w", ["d", "c"], [], [])], "catch w d c", "then")
        self.check([("catch", "w", ["w"], [], [Y])], "catch w w", "then", "  say y")

    def test_last(self):
        self.check([("last", [X], [Y])], "last", "  say x", "then", "  say y")
        self.check([("last", [], []), ("last", [], [])], "last", "then", "last", "then")

    def test_either_whether_each(self):
        self.check([("either", ["d", "c"], [X], [Y])], "either d c", "  say x", "or", "  say y")
        self.check([("either", [], [], [])], "either", "or")
        self.check([("whether", ["c"], [X], [Y], [Z])], "whether c", "  say x", "then", "  say y", "else", "  say z")
        self.check([("whether", [], [], [], []), X], "whether", "then", "else", "say x")
        self.check([("whether", [], [], [X], [])], "whether", "then", "  say x", "else")
        self.check([("each", ["c", "a", "b"], [X], [Y])], "each c a b", "  say x", "then", "  say y")
        self.check([("each", [], [], [])], "each", "then")

    def test_lists_in_lists(self):
        self.check([("last", [("either", [], [("less", "c", 1, [X], [])], [("times", 2, [Y])])], [("last", [], [Z])]), X],
                   "last", "  either", "    less c 1", "      say x", "    else", "  or", "    times 2", "      say y", "then",
                   "  last", "  then", "    say z", "say x")
        self.check([("times", 1, [("times", 2, [("times", 3, [])]), X]), Y],
                   "times 1", "  times 2", "    times 3", "  say x", "say y")

    def test_numbers(self):
        for n in (0, 1, -1, 9, 10, -10, 100, 1000000, BIG, -BIG, 10 ** 30):
            self.check([("set", "c", n), ("less", "c", n, [], [])], f"set c {n}", f"less c {n}", "else")

    def test_names_like_words_of_texts(self):
        for name in [*GOOD_NAMES, *KEYWORDS, "less", "either"]:
            self.check([("say", name), ("set", name, 1)], f"say {name}", f"set {name} 1")
            self.check([("either", [name], [("say", name)], [])], f"either {name}", f"  say {name}", "or")
            if name != "back":
                self.check([("catch", name, [name], [("fault", name)], [])], f"catch {name} {name}", f"  fault {name}", "then")

    def test_each_kind_within_each_kind(self):
        kinds = steps_of_each_kind()
        for outer, inner in itertools.product(kinds.values(), repeat=2):
            steps = [outer, ("last", [inner, outer], [inner]), ("whether", ["c"], [outer], [inner], [outer, inner])]
            self.check(steps, *text_again(steps).split("\n"))
        self.check(NESTED, *text_again(NESTED).split("\n"))

    def test_deep_lists(self):
        steps = [X]
        for _ in range(10):
            steps = [("last", steps, [HOLE]), Y]
        self.check(steps, *text_again(steps).split("\n"))

    def test_many_parts(self):
        for seed in range(800):
            steps = Maker(seed).part()
            self.check(steps, *(text_again(steps).split("\n") if steps else []))

    def test_by_name(self):
        self.assertEqual(text(part=Part([X])), "say x")
        self.assertEqual(read(written="say x"), Part([X]))


class TestBadTexts(TextTest):

    def test_lines_without_characters(self):
        self.bad(1, "", "")
        self.bad(1, "", "say x")
        self.bad(2, "say x", "")
        self.bad(2, "say x", "", "say y")
        self.bad(3, "last", "then", "")
        self.bad(2, "last", "", "then")
        self.bad(2, "times 2", "")
        self.bad(3, "say x", "say y", "", "", "")

    def test_a_line_feed_at_the_end(self):
        for steps in ([X], [HOLE, BACK], [("last", [], [])], [("times", 1, [X])], NESTED):
            written = text(Part(steps))
            self.bad(len(written.split("\n")) + 1, *written.split("\n"), "")

    def test_words(self):
        for line in ("x", "Say x", "SAY x", "says x", "jump", "answer", "then", "else", "or", "0", "-", "sayx", "catch", "?", "~", "#",
                     "hole hole", "back x", "then x", "nothing", "say", "set", "add", "copy", "less", "below", "times", "fault"):
            self.bad(1, line)
            self.bad(2, "say x", line)
            self.bad(3, "last", "  say x", "  " + line)
            self.bad(1, line, "then", "say x")

    def test_margins(self):
        for margin in (" ", "  ", "   ", "    "):
            self.bad(1, margin + "say x")
            self.bad(2, "say x", margin + "say x")
            self.bad(2, "hole", margin + "hole", "hole")
        for margin in ("", " ", "   ", "    ", "      "):
            self.bad(2, "last", margin + "say x", "then")
            if margin:
                self.bad(3, "last", "then", margin + "say x")
            self.bad(3, "last", "  hole", margin + "say x", "then")
        for margin in (" ", "  ", "   ", "    "):
            self.bad(2, "last", margin + "then")
            self.bad(3, "last", "  say x", margin + "then")
            self.bad(3, "less c 1", "  last", margin + "else")
        self.bad(4, "last", "  last", "  then", "      say x")
        # What stands in the margin are blanks, and nothing else.
        for signs in ("xx", "--", "x ", " x", "  x", "..", "~~"):
            self.bad(2, "last", signs + "hole", "then")
            self.bad(4, "last", "  last", "  then", "  " + signs + "hole", "then")
            self.bad(4, "last", "  last", "  then", signs + "  hole", "then")
            self.bad(3, "last", "  hole", signs + "then")
        self.bad(3, "times 2", "  say x", "   say y")

    def test_blanks(self):
        for line in ("say  x", "say x ", " say x", "say x  ", "set c  1", "set  c 1", "set c 1 ", "back ", "hole ", "either ", "either  c",
                     "either c ", "either c  d", "last ", "times  1", "times 1 ", "catch w ", "catch  w", "copy c d 1 ", "times ", "say "):
            self.bad(1, line)
            self.bad(2, "hole", line, "hole")
        for keyword in ("then ", " then", "then  "):
            self.bad(2, "last", keyword)
        self.bad(2, "either", "or ")
        self.bad(2, "less c 1", "else ")
        self.bad(1, " ")
        self.bad(1, "   ", "say x")
        self.bad(2, "last", "  ", "then")

    def test_items_more_or_less(self):
        for line in ("say", "say x y", "set c", "set 1", "set", "set c 1 2", "set c d 1", "add c", "add c 1 1", "copy c 1", "copy c d",
                     "copy c d e", "copy c d e 1", "copy c d 1 1", "less c", "less 1", "less c d 1", "less c 1 1", "below c 1", "below c d",
                     "below c d 1 1", "times", "times 1 1", "times c", "times 1 c", "fault", "fault v w", "catch", "last c", "last 1",
                     "back c", "hole c", "hole 1", "either 1", "either c 1", "whether 1", "each c 1", "catch w 1", "catch w c 1"):
            self.bad(1, line)
            self.bad(4, "last", "  hole", "then", "  " + line, "say x")

    def test_numbers(self):
        for n in ("00", "01", "007", "-0", "-00", "-01", "+1", "+0", "--1", "-", "+", "1-", "- 1", "1.0", "1e3", "1_000", "0x1", "one", "1a",
                  "a1", "1,000", "-+1", "", "~1", "1 ", " 1", "-" + "0" * 30):
            self.bad(1, "set c " + n)
            self.bad(1, "add c " + n, "hole")
            self.bad(1, "copy c d " + n)
            self.bad(2, "hole", "less c " + n, "else")
            self.bad(2, "hole", "below c d " + n, "else")
            self.bad(1, "times " + n)
        for n in ("4", "5", "10", "-1", "-3", "13", "30", str(BIG)):
            self.bad(1, "times " + n)
        for n in ("0", "5", "-5", "10", "-10", str(BIG), str(-BIG), "9" * 1000, "-1" + "0" * 1000):
            self.assertEqual(read("set c " + n), Part([("set", "c", int(n))]))

    def test_names(self):
        for name in ("abcdefghi", "A", "aB", "a1", "1", "a_b", "a-b", "-a", "a.", "(a)", "'a'", "a" * 3000, "{", "`", "~"):
            for line in (f"say {name}", f"set {name} 1", f"add {name} 1", f"copy {name} c 1", f"copy c {name} 1", f"less {name} 1",
                         f"below {name} c 1", f"below c {name} 1", f"fault {name}", f"catch {name}", f"catch w {name}",
                         f"catch w c {name}", f"either {name}", f"either c {name} d", f"whether {name}", f"each {name}"):
                self.bad(1, line)
                self.bad(2, "hole", line)

    def test_the_word_back_of_faults_and_catches(self):
        for line in ("fault back", "catch back", "catch back c"):
            self.bad(1, line)
            self.bad(2, "hole", line, "then")

    def test_a_cell_held_twice(self):
        for line in ("either c c", "whether c d c", "each d c c", "catch w c c", "catch w a b a"):
            self.bad(1, line)
            self.bad(3, "last", "then", "  " + line)

    def test_keywords_that_are_missing(self):
        for line in ("less c 1", "below c d 1", "catch w", "last", "either", "whether", "each"):
            self.bad(2, line)
            self.bad(3, line, "  hole")
            self.bad(2, line, "hole")
            self.bad(3, line, "  hole", "say x")
            self.bad(3, "last", "  " + line, "then")
            self.bad(4, "last", "  " + line, "    hole", "then")
        self.bad(3, "whether", "then")
        self.bad(4, "whether", "then", "  say x")
        self.bad(3, "whether", "then", "say x")
        self.bad(2, "whether", "else")
        self.bad(3, "whether", "  hole", "else", "then")

    def test_keywords_twice_or_of_another_step(self):
        self.bad(3, "last", "then", "then")
        self.bad(4, "last", "then", "  hole", "then")
        self.bad(4, "whether", "then", "else", "else")
        self.bad(3, "whether", "then", "then", "else")
        for first, right in (("less c 1", "else"), ("below c d 1", "else"), ("catch w", "then"), ("last", "then"), ("either", "or"),
                             ("each", "then")):
            for keyword in KEYWORDS:
                if keyword != right:
                    self.bad(2, first, keyword)
                self.bad(3, first, right, keyword)
                self.bad(2, "times 1", keyword)
                self.bad(3, "times 1", "  hole", keyword)
        self.bad(2, "last", "THEN")
        self.bad(2, "last", "then c")
        self.bad(2, "either", "or c")

    def test_keywords_at_another_margin(self):
        self.bad(3, "last", "  last", "then")
        self.bad(3, "last", "  last", "    then")
        self.bad(5, "last", "  last", "  then", "then", "  then")
        self.bad(4, "last", "  last", "  then", "  then")
        self.check([("last", [("last", [], [])], [])], "last", "  last", "  then", "then")
        self.bad(2, "say x", "then")
        self.bad(1, "then")

    def test_texts_that_end_too_early(self):
        for steps in (NESTED, [("whether", ["c"], [("last", [X], [Y])], [("either", [], [], [HOLE])], [("less", "c", 1, [], [])])]):
            lines = text(Part(steps)).split("\n")
            for many in range(len(lines)):
                bad = first_bad_line("\n".join(lines[:many]))
                if bad is not None:
                    self.assertEqual(bad, many + 1)
                    self.bad(many + 1, *lines[:many])

    def test_strings_of_any_characters(self):
        for sign in [chr(number) for number in range(32, 127)]:
            for written in (sign, sign * 3, "say " + sign, "say x" + sign, sign + "say x", "set c 1" + sign, "last\n" + sign,
                            "last" + sign + "\nthen"):
                bad = first_bad_line(written)
                if bad is None:
                    self.assertEqual(text(read(written)), written)
                else:
                    self.bad(bad, *written.split("\n"))
        self.bad(1, "x" * 4000)
        self.bad(1, *[""] * 4000)
        self.bad(1, " " * 4000)

    def test_all_short_texts(self):
        lines = [" " * margin + content for margin in (0, 1, 2, 4)
                 for content in ("back", "last", "then", "either", "or", "whether c", "else", "times 1", "less c 1", "say", "")]
        for many in (1, 2):
            for row in itertools.product(lines, repeat=many):
                self.compare(row)
        good = late = 0
        chance = random.Random(3)
        for _ in range(500):
            row = []
            for _ in range(chance.randint(3, 8)):
                # Most lines go on from those ahead, so that the wrong ones stand late.
                going = [line for line in lines if goes_on([*row, line])]
                row.append(chance.choice(going if going and chance.random() < 0.9 else lines))
            good += self.compare(row)
            late += not goes_on(row) and goes_on(row[:3])
        self.assertGreater(good, 15)
        self.assertGreater(late, 60)

    def compare(self, row):
        written = "\n".join(row)
        bad = first_bad_line(written)
        if bad is None:
            self.assertEqual(text(read(written)), written)
            return True
        with self.assertRaises(BadText) as held:
            read(written)
        self.assertEqual(held.exception.line, bad, row)
        return False

    def test_texts_with_one_change(self):
        good = 0
        for seed in range(600):
            maker = Maker(seed)
            written = text(Part(maker.part()))
            if not written:
                continue
            for _ in range(6):
                lines = written.split("\n")
                at = maker.chance.randrange(len(lines))
                line = lines[at]
                place = maker.chance.randrange(len(line) + 1)
                lines[at:at + 1] = maker.chance.choice([
                    [], [line, line], ["  " + line], [line[2:]], [line[:place] + " " + line[place:]], [line[:place] + line[place + 1:]],
                    [line, maker.chance.choice(lines)], [maker.chance.choice(KEYWORDS)], [line + " c"], ["hole", line],
                    [line[:place] + "0" + line[place:]], [line[:place] + "-" + line[place:]], [line[:place] + "\n" + line[place:]],
                ])
                good += self.compare(lines)
        self.assertGreater(good, 100)

    def test_the_line_is_the_first_that_no_text_begins_with(self):
        # Each line ahead of the one that is told can be gone on from: with the lines that are still missing it is a text.
        found = 0
        for seed in range(60):
            maker = Maker(seed)
            lines = text(Part(maker.part())).split("\n")
            lines[maker.chance.randrange(len(lines))] = maker.chance.choice(lines)
            bad = first_bad_line("\n".join(lines)) or len(lines) + 1
            for begin in range(1, bad):
                ended = finished(lines[:begin])
                self.assertEqual(text(read("\n".join(ended))).split("\n")[:begin], lines[:begin])
                found += 1
        self.assertGreater(found, 300)


def goes_on(lines):
    """Whether a text of a part begins with these lines."""
    return first_bad_line("\n".join(lines)) in (None, len(lines) + 1)


def finished(lines):
    """The lines of a text that begins with these, which can be gone on from."""
    lines = list(lines)
    while True:
        bad = first_bad_line("\n".join(lines))
        if bad is None:
            return lines
        for margin, keyword in itertools.product(range(12, -1, -2), KEYWORDS):
            longer = first_bad_line("\n".join([*lines, " " * margin + keyword]))
            if longer is None or longer > bad:
                lines.append(" " * margin + keyword)
                break


if __name__ == "__main__":
    unittest.main()
