"""Least clashes: sets of parts that can't all be sound, none of which can be left out."""

from faultwhy.pieces import mode_pieces
from faultwhy.reckoning import reckon_pieces
from faultwhy.trails import clash_rows


def least_clash(work, turns, readings, names):
    sound = sound_pieces(work, turns)
    least = least_names(sound, readings, names)
    if least is None:
        return None
    return (least, rows_against(sound, readings, least))


def sound_pieces(work, turns):
    sound = {}
    for part in work[1]:
        sound[part[0]] = mode_pieces(part, turns, None)
    return sound


def least_names(sound, readings, names):
    left = names_used(sound, readings, names)
    if left is None:
        return None
    for name in list(left):
        # A part that was needed stays needed when others have gone, so each is tried once.
        if name in left:
            fewer = names_used(sound, readings, [other for other in left if other != name])
            left = left if fewer is None else fewer
    return left


def names_used(sound, readings, names):
    # Those of the names that one clash among them goes back to; None without a clash.
    rows = rows_against(sound, readings, names)
    if rows is None:
        return None
    used = {}
    for row in rows:
        used[row[3]] = True
    return [name for name in names if name in used]


def rows_against(sound, readings, names):
    pieces = []
    for name in names:
        pieces.extend(sound[name])
    done = reckon_pieces(pieces, readings)
    return None if done.last is None else clash_rows(done.steps, done.last)
