"""[29], [30], told in another way than the package does: texts line by line, with a heap of the steps that are still open."""

import re

from samples import lists_within

NAME = "[a-z]{1,8}"
NUMBER = "(0|-?[1-9][0-9]*)"
FIRST_LINES = {
    "say": f"say {NAME}", "set": f"set {NAME} {NUMBER}", "add": f"add {NAME} {NUMBER}", "copy": f"copy {NAME} {NAME} {NUMBER}",
    "fault": f"fault {NAME}", "back": "back", "hole": "hole", "less": f"less {NAME} {NUMBER}",
    "below": f"below {NAME} {NAME} {NUMBER}", "times": "times [0-3]", "catch": f"catch {NAME}( {NAME})*", "last": "last",
    "either": f"either( {NAME})*", "whether": f"whether( {NAME})*", "each": f"each( {NAME})*",
}
# What has to follow behind the first list of a step.
BEHIND = {"less": ["else"], "below": ["else"], "times": [], "catch": ["then"], "last": ["then"], "either": ["or"],
          "whether": ["then", "else"], "each": ["then"]}
KEYWORDS = ("then", "else", "or")


def is_first_line(line):
    word, *items = line.split(" ")
    if word not in FIRST_LINES or not re.fullmatch(FIRST_LINES[word], line):
        return False
    if word in ("fault", "catch") and items[0] == "back":
        return False
    held = items[1:] if word == "catch" else items if word in ("either", "whether", "each") else []
    return len(held) == len(set(held))


def first_bad_line(written):
    """The line of which BadText tells, or None for the text of a part."""
    lines = written.split("\n") if written else []
    heap = []
    for number, line in enumerate(lines, start=1):
        content = line.lstrip(" ")
        margin = len(line) - len(content)
        if content in KEYWORDS:
            while heap and heap[-1][0] > margin:
                if heap.pop()[1]:
                    return number
            if not heap or heap[-1][0] != margin or heap[-1][1][:1] != [content]:
                return number
            heap[-1][1].pop(0)
            continue
        while heap and heap[-1][0] >= margin:
            if heap.pop()[1]:
                return number
        if margin != (heap[-1][0] + 2 if heap else 0) or not is_first_line(content):
            return number
        if content.split(" ")[0] in BEHIND:
            heap.append((margin, list(BEHIND[content.split(" ")[0]])))
    return len(lines) + 1 if any(pending for _, pending in heap) else None


def text_again(steps, margin=0):
    """The text of steps."""
    rows = []
    for step in steps:
        lists = lists_within(step)
        items = [item for item in step[:len(step) - len(lists)]]
        words = [str(word) for item in items for word in (item if isinstance(item, (list, tuple)) else [item])]
        rows.append(" " * margin + " ".join(words))
        for keyword, inner in zip(["", *BEHIND.get(step[0], [])], lists):
            rows += [" " * margin + keyword] if keyword else []
            rows += [text_again(inner, margin + 2)] if inner else []
    return "\n".join(rows)
