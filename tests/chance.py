"""Steps by chance, each made for a wire as it stands; some of them are refused."""

WORDS = ("a", "b", "ab", "abc", "ba", "q")
TEXTS = ("", "a", "ab", " ", "\n", "b a", "\nab\n", "~", "a" * 40, "\t")
SHEETS = ("", "ab", "a b\nab a\n\nba ab", "abc " * 50, "\n" * 30, "ab\n" * 9, "~ ~\n ~~", "\t", "a" * 201)
KINDS = ["edit"] * 6 + ["ask"] * 7 + ["carry"] * 8 + ["bring"] * 5 + ["work"] * 6 + ["open"] * 3 + [
    "take"] * 3 + ["off", "close", "fall", "anew", "anew", "settle"]


def some_place(chance, sheet):
    if chance.random() < 0.05:
        return (chance.randint(0, 9), chance.randint(0, 99))
    rows = sheet.split("\n")
    row = chance.randrange(len(rows))
    return (row, chance.randint(0, len(rows[row])))


def some_edit(chance, sheet):
    places = [some_place(chance, sheet), some_place(chance, sheet)]
    if chance.random() < 0.5:
        places[1] = places[0]
    if chance.random() < 0.95:
        places.sort()
    return (places[0], places[1], chance.choice(TEXTS))


def some_want(chance, sheet):
    kind = chance.choice(("find", "rows", "word", "rename"))
    if kind in ("find", "rows"):
        return (kind, chance.choice(WORDS))
    if kind == "word":
        return (kind, some_place(chance, sheet))
    return (kind, some_place(chance, sheet), chance.choice(WORDS))


def some_file(chance, files):
    if files and chance.random() < 0.95:
        return chance.choice(files)[0]
    return chance.randint(0, 10)


def some_step(chance, wire):
    files = wire.files()
    sheets = {row[0]: row[2] for row in files}
    kind = chance.choice(KINDS)
    if kind == "open":
        return (kind, chance.randint(0, 10), chance.choice(SHEETS))
    if kind == "close":
        return (kind, some_file(chance, files))
    if kind in ("edit", "ask"):
        file = some_file(chance, files)
        sheet = sheets.get(file, "")
        if kind == "ask":
            return (kind, file, some_want(chance, sheet))
        return (kind, file, tuple([some_edit(chance, sheet) for _ in range(chance.choice((0, 1, 1, 1, 2)))]))
    if kind in ("off", "take"):
        return (kind, chance.randint(0, len(wire.shown())))
    if kind == "work":
        return (kind, chance.randint(0, 3))
    return (kind,)


def do_step(wire, step):
    if step[0] in ("carry", "bring", "work", "fall", "anew", "settle"):
        return getattr(wire, step[0])(*step[1:])
    return wire.do(step)
