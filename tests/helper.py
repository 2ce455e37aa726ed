"""What several tests share: works made for them, and checks by the document's own words."""

import copy
import itertools

from faultwhy.forcing import forced
from faultwhy.pieces import pieces_of
from faultwhy.works import read_work

GREATEST = 10 ** 60 - 1

# Point 4, written anew for the tests.
PINS = {
    "add": "nnn", "times": "nnn", "copy": "xx", "const": "x", "hold": "xx", "not": "tt",
    "and": "ttt", "or": "ttt", "xor": "ttt", "more": "nnt", "pick": "txxx",
}
KIND = {"n": "number", "t": "truth"}


def text_of(*rows):
    return "\n".join(rows)


def work_of(*rows):
    return read_work(text_of(*rows))


def lists_in(thing):
    # Every list, dict and the like within a thing, itself among them.
    found = [thing] if isinstance(thing, (list, dict)) else []
    if isinstance(thing, dict):
        thing = list(thing.values())
    if isinstance(thing, (list, tuple)):
        for one in thing:
            found.extend(lists_in(one))
    return found


def spoil(thing):
    # What an asker might do with all that was told to him.
    for one in lists_in(thing):
        if isinstance(one, dict):
            one.clear()
        else:
            one[:] = ["spoilt"]


def assert_own(case, told, *handed):
    # No list that is told is handed in as well, and none is told twice.
    numbers = [id(one) for one in lists_in(told)]
    case.assertEqual(len(set(numbers)), len(numbers))
    for thing in handed:
        case.assertFalse(set(numbers) & {id(one) for one in lists_in(thing)})


def assert_plain(case, told):
    # Whole numbers are never True or False, and what is told is of plain kinds.
    if isinstance(told, (list, tuple)):
        for one in told:
            assert_plain(case, one)
    else:
        case.assertIn(type(told), (int, str, type(None)))


def asked(case, function, *handed):
    # Asks, and looks that nothing handed in was changed or handed back, and that what was told is the asker's own.
    before = copy.deepcopy(handed)
    told = function(*handed)
    case.assertEqual(handed, before)
    assert_own(case, told, handed)
    kept = copy.deepcopy(told)
    spoil(told)
    case.assertEqual(handed, before)
    case.assertEqual(function(*handed), kept)
    return kept


def ways_for(sort, kinds):
    # Some of each word that point 5 lets a part have.
    out = kinds[-1]
    ways = [("stuck", 0), ("stuck", 1)]
    ways += [("stuck", -7), ("off", 3), ("off", -1), ("off", 0)] if out == "number" else [("flip", None)]
    if sort not in ("const", "hold"):
        ways += [("pass", number + 1) for number, kind in enumerate(kinds[:-1]) if kind == out]
    return ways


def random_work(rng, parts, wires=None, rings=False, ways=0, shut=0.0, sorts=None):
    """A work of so many parts. Without rings no part but a hold draws from a later one that is no hold."""
    sorts = sorts or sorted(PINS)
    kinds = [rng.choice(["number", "truth"]) for number in range((wires or 2 * parts + 2) - 2)] + ["number", "truth"]
    names = [f"w{number}" for number in range(len(kinds))]
    made = []
    while len(made) < parts:
        part = random_part(rng, f"p{len(made)}", list(zip(names, kinds)), made, rings, rng.choice(sorts))
        if part:
            told = ways_for(part[1], part[4])
            made.append(part[:4] + (rng.sample(told, min(ways, len(told))),))
    rng.shuffle(made)
    told = list(zip(names, kinds, [rng.random() < shut for name in names]))
    rng.shuffle(told)
    return (told, made)


def random_part(rng, name, wires, made, rings, sort):
    either = rng.choice("nt")
    kinds = [KIND[either if sign == "x" else sign] for sign in PINS[sort]]
    outs = [part[2][-1] for part in made]
    rings = rings or sort == "hold"
    drawn = [wire for part in made if part[1] != "hold" for wire in part[2][:-1]]
    free = [wire for wire, kind in wires if kind == kinds[-1] and wire not in outs and (rings or wire not in drawn)]
    if not free:
        return None
    out = rng.choice(free)
    pins = []
    for kind in kinds[:-1]:
        fit = [wire for wire, other in wires if other == kind and (rings or wire != out)]
        if not fit:
            return None
        # Mostly from parts made before, so that works are not all loose ends.
        fed = [wire for wire in fit if wire in outs]
        pins.append(rng.choice(fed if fed and rng.random() < 0.7 else fit))
    number = rng.choice([0, 1] if kinds[-1] == "truth" else [0, 1, -2, 5]) if sort in ("const", "hold") else None
    return (name, sort, pins + [out], number, kinds)


def kinds_of(work):
    return {name: kind for name, kind, shut in work[0]}


def part_kinds(work, part):
    return [kinds_of(work)[wire] for wire in part[2]]


def free_of(work):
    outs = [part[2][-1] for part in work[1]]
    return [name for name, kind, shut in work[0] if name not in outs]


def random_value(rng, kind, far=False):
    if kind == "truth":
        return rng.choice([0, 1])
    return rng.choice([0, 1, -1, 2, 3, -4] + ([GREATEST, -GREATEST, 10 ** 59, 7 * 10 ** 30] if far else []))


def random_inputs(rng, work, turns, far=False):
    kinds = kinds_of(work)
    return [[random_value(rng, kinds[wire], far) for wire in free_of(work)] for turn in range(turns)]


def random_readings(rng, work, turns, played, share, wrong):
    # Readings of a share of the places, some of them against what was played.
    readings = []
    for turn in range(turns):
        for place, (name, kind, shut) in enumerate(work[0]):
            if rng.random() < share:
                value = played[turn][place]
                if rng.random() < wrong:
                    value = 1 - value if kind == "truth" else value + rng.choice([-2, -1, 1, 5])
                readings.append((name, turn, value))
    rng.shuffle(readings)
    return readings


def pieces_by_part(work, turns, modes):
    return {part[0]: pieces_of(part, turns) for part in work[1] if part[0] in modes}


def forces(piece, way, known):
    # What a piece forces, as pairs of place and value, from the values known at places.
    sort, number, places = piece
    pairs = forced(sort, number, way, [known.get(place) for place in places])
    return {(places[pin], value) for pin, value in pairs}


def check_reckoning(case, work, turns, readings, modes, told):
    """Holds what a reckoning tells against points 14 and 15, word by word."""
    word, rows = told
    case.assertIsInstance(told, tuple)
    case.assertIsInstance(rows, list)
    pieces = pieces_by_part(work, turns, modes)
    known = {(wire, turn): value for wire, turn, value in readings}
    for number, row in enumerate(rows):
        check_row(case, pieces, modes, known, rows, number)
        case.assertIsInstance(row, tuple)
    places = [row[:2] for row in rows]
    if word == "table":
        check_table(case, pieces, modes, known, rows, places)
    else:
        case.assertEqual(word, "clash")
        check_clash(case, rows, places)


def check_row(case, pieces, modes, known, rows, number):
    wire, turn, value, part, at, origin = rows[number]
    case.assertIsInstance(origin, list)
    if known.get((wire, turn)) == value or part == "":
        case.assertEqual(known[(wire, turn)], value)
        case.assertEqual((part, at, origin), ("", turn, []))
        return
    case.assertEqual(origin, sorted(set(origin)))
    case.assertTrue(all(0 <= one < number for one in origin))
    piece = pieces[part][at]
    values = {rows[one][:2]: rows[one][2] for one in origin}
    case.assertEqual(len(values), len(origin))
    case.assertTrue(set(values) <= set(piece[2]))
    case.assertIn(((wire, turn), value), forces(piece, modes[part], values))
    for place in values:
        fewer = {other: values[other] for other in values if other != place}
        case.assertNotIn(((wire, turn), value), forces(piece, modes[part], fewer))


def check_table(case, pieces, modes, known, rows, places):
    case.assertEqual(len(set(places)), len(places))
    values = {row[:2]: row[2] for row in rows}
    for place in known:
        case.assertEqual(values.get(place), known[place])
    for name in pieces:
        for piece in pieces[name]:
            for place, value in forces(piece, modes[name], values):
                case.assertEqual(values.get(place), value)


def check_clash(case, rows, places):
    case.assertNotEqual(rows[-1][3], "")
    twins = [number for number, place in enumerate(places[:-1]) if place == places[-1]]
    case.assertEqual(len(twins), 1)
    case.assertNotEqual(rows[twins[0]][2], rows[-1][2])
    case.assertEqual(len(set(places)), len(places) - 1)
    used = {one for row in rows for one in row[5]} | {twins[0]}
    case.assertEqual(used, set(range(len(rows) - 1)))


def values_reckoned(work, turns, readings, modes):
    """The reckoned values by places, or None where they clash: the plainest walk that point 14 lets one think of."""
    values = {(wire, turn): value for wire, turn, value in readings}
    pieces = pieces_by_part(work, turns, modes)
    while True:
        before = len(values)
        for name in pieces:
            for piece in pieces[name]:
                for place, value in forces(piece, modes[name], values):
                    if values.setdefault(place, value) != value:
                        return None
        if len(values) == before:
            return values


def clashes_with(work, turns, readings, names):
    return values_reckoned(work, turns, readings, {name: None for name in names}) is None


def subsets(names):
    return [list(one) for size in range(len(names) + 1) for one in itertools.combinations(names, size)]
