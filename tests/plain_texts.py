"""What the text of a ledger is, by the words of the document, and texts that are nearly one.

Of the program only the search for a story is used here, which has tests of its own.
"""

import re

from stockcounts.best import least_weight
from stockcounts.errors import Contradiction

NUMBER = "(0|[1-9][0-9]{0,59})"
WEIGHT = "(sure|0|[1-9][0-9]{0,59})"
HEAD = f"ledger {NUMBER} {NUMBER}"
MOVE = f"move {NUMBER} {NUMBER} (-|[a-z]{{1,8}}) (-|[a-z]{{1,8}}) {NUMBER} {WEIGHT}"
COUNT = f"count {NUMBER} {NUMBER} ([a-z]{{1,8}}) {NUMBER} {WEIGHT}"

# Integers as they are not written: with a sign, with leading zeros, too long, in other digits, with other marks.
NO_NUMBERS = [
    "-1", "+1", "-0", "+0", "00", "01", "007", "1" * 61, "9" * 5000, "0" * 61, "", "x", "sure", "none", "None",
    "True", "1.0", "1e3", "1_0", "1,0", "0x1", "\u0661", "\u00b2", "\uff11", "\u0967", "1\u0660", "\t1", "1\t",
    "1\r", "1\u00a0", "\u20031", "1\n", "\n1", "'1'", "(1)",
]

# Integers that are written rightly, though they may be too great, or nothing for the place where they stand.
NUMBERS = ["0", "1", "2", "1000", "1001", "1000000", "1000001", "9" * 60, "1" + "0" * 59]

PLACES = ["a", "b", "z", "abcdefgh"]
NO_PLACES = ["", "-", "--", "A", "aB", "abcdefghi", "a1", "1", "a-", "a_b", "\u00e4", "\u00b5", "\uff41", "a\t", "a\n"]

OTHER_VALUES = [None, True, False, 0, 1, 10**60, [], ["ledger 10 10"], (), ("ledger 10 10",), {}, {"ledger": 10},
                [["ledger", 10, 10]], b"ledger 10 10"]


def plain_record(line):
    """The record of a line, or None if it is none."""
    for form, places in ((MOVE, (2, 3)), (COUNT, (2,))):
        found = re.fullmatch(form, line)
        if found:
            parts = found.groups()
            weight = None if parts[-1] == "sure" else int(parts[-1])
            record = (int(parts[0]), int(parts[1]), *[parts[at] for at in places], int(parts[-2]), weight)
            right = 1 <= record[0] <= 10**6 and record[1] <= 10**6 and record[-2] <= 10**6
            right = right and (weight is None or 1 <= weight <= 1000)
            return record if right and (len(record) == 5 or record[2] != record[3]) else None
    return None


def plain_reading(text):
    """The costs and the records of a text, or None if it is not the text of a ledger."""
    lines = text.split("\n")
    head = re.fullmatch(HEAD, lines[0])
    records = [plain_record(line) for line in lines[1:]]
    if head is None or None in records or len(records) > 40:
        return None
    costs = [int(part) for part in head.groups()]
    keys = [(record[1], record[0]) for record in records]
    if min(costs) < 1 or max(costs) > 1000 or keys != sorted(keys):
        return None
    if len({record[0] for record in records}) < len(records):
        return None
    try:
        least_weight(records, shortage=costs[0], surplus=costs[1])
    except Contradiction:
        return None
    return costs[0], costs[1], records


def near_texts(text):
    """Texts with a line or a word removed, repeated, moved or replaced, and with other white space."""
    lines = text.split("\n")
    for at, line in enumerate(lines):
        rest = lines[:at] + lines[at + 1:]
        others = [rest, lines[:at] + [line] + lines[at:], lines[:at] + [""] + lines[at:]]
        others += [rest[:to] + [line] + rest[to:] for to in range(len(lines))]
        yield from ["\n".join(other) for other in others]
        for other in near_lines(line):
            yield "\n".join(lines[:at] + [other] + lines[at + 1:])
    for mark in ["\n", " ", "\r", "\t", "\r\n", "\u2028", "\x0b", "\x0c", "\x85"]:
        yield from [text + mark, mark + text, text.replace("\n", mark), text.replace("\n", mark + "\n")]
    yield from [text.upper(), text.title(), text + "\n" + text, "", "\n", " ", text.replace(" ", "")]


def near_lines(line):
    words = line.split(" ")
    for at, word in enumerate(words):
        for other in NO_NUMBERS + NUMBERS + PLACES + NO_PLACES + ["move", "count", "ledger", "Sure", word + word]:
            yield " ".join(words[:at] + [other] + words[at + 1:])
        yield " ".join(words[:at] + words[at + 1:])
        yield " ".join(words[:at] + [word] + words[at:])
        yield " ".join(words[:at] + [""] + words[at:])
        for mark in ["\t", "  ", "\u00a0", "\n", "\u2003"]:
            yield " ".join(words[:at]) + mark + " ".join(words[at:])
    yield from [" " + line, line + " ", "\t" + line, line + "\r"]
