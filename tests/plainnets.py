"""Questions made by chance, and their plain answers told once more by hand."""

from plainsums import WORDS
from test_hops import windows_by_hand
from test_lots import lots_by_hand, running_by_hand
from test_meets import HOWS, alone_by_hand, paired_by_hand
from test_stills import stretched_by_hand

KINDS = ("pick", "turn", "both", "bytime", "silence", "count", "sofar", "pairs", "lone")
NAMES = ("pick", "b", "left", "d", "abcdefgh", "f", "sum", "h")


def answer_by_hand(row, several):
    word, (_, _, *rest) = row[1], row
    standing = several[0]
    if word == "pick":
        return {tag: one for tag, one in standing.items() if rest[1] <= one[2] <= rest[2]}
    if word == "turn":
        return {tag: (one[0], one[1], one[2] * rest[1] + rest[2]) for tag, one in standing.items()}
    if word == "both":
        return {(side, tag): one for side in (0, 1) for tag, one in several[side].items()}
    if word == "bytime":
        return windows_by_hand(standing, rest[1], rest[2], rest[3])
    if word == "silence":
        return stretched_by_hand(standing, rest[1], rest[2])
    if word == "count":
        return lots_by_hand(standing, rest[1], rest[2])
    if word == "sofar":
        return running_by_hand(standing, rest[1])
    if word == "pairs":
        return paired_by_hand(several[0], several[1], rest[2], rest[3])
    return alone_by_hand(several[0], several[1], rest[2])


def plain_by_hand(rows, standings):
    known = dict(standings)
    for row in rows:
        sources = row[2:4] if row[1] in ("both", "pairs", "lone") else row[2:3]
        known[row[0]] = answer_by_hand(row, [known.get(source, {}) for source in sources])
    return {row[0]: known[row[0]] for row in rows}


def some_rows(chance, streams, most=5, kinds=KINDS):
    """The rows of a question; ids of its steps are at most eight deep where those of its streams are at most two."""
    depths = {stream: 2 for stream in streams}
    rows = []
    for name in NAMES[:chance.randrange(1, most + 1)]:
        kind = chance.choice(kinds)
        one, other = chance.choice(list(depths)), chance.choice(list(depths))
        deeper = max(depths[one], depths[other]) + 1
        if kind == "pairs" and [row[1] for row in rows].count("pairs") == 2 or deeper > 7:
            kind = "sofar"
        word = chance.choice(WORDS)
        depth = depths[one]
        if kind == "pick":
            row = (name, kind, one, chance.randrange(-2, 1), chance.randrange(1, 4))
        elif kind == "turn":
            row = (name, kind, one, chance.randrange(-2, 3), chance.randrange(-2, 3))
        elif kind == "bytime":
            row = (name, kind, one, chance.choice((1, 3, 4, 6)), chance.choice((1, 2, 3, 5)), word)
        elif kind == "silence":
            row = (name, kind, one, chance.choice((0, 1, 3)), word)
        elif kind == "count":
            row = (name, kind, one, chance.choice((2, 3)), word)
        elif kind == "sofar":
            row = (name, kind, one, word)
        elif kind == "both":
            row = (name, kind, one, other)
        elif kind == "pairs":
            row = (name, kind, one, other, chance.choice((0, 1, 2)), chance.choice(HOWS))
        else:
            row = (name, kind, one, other, chance.choice((0, 1, 2)))
        if kind in ("both", "pairs"):
            depth = deeper
        elif kind in ("bytime", "silence", "count"):
            depth = 1
        depths[name] = depth
        rows.append(row)
    return rows
