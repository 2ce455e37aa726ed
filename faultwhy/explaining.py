"""All least clashes and all least explanations, and what these say of each part."""

from faultwhy.clashing import least_names, sound_pieces
from faultwhy.covering import by_length, least_covers


def all_reasons(work, turns, readings):
    names = names_of(work)
    search = Search(names, sound_pieces(work, turns), readings)
    covers = least_covers(search.family)
    # Each round makes the sets that are still unsure greater by one part at
    # least, so there are few rounds. When all sets that meet the clashes found
    # are explanations, no least clash is missing either.
    while search.finds_more(covers):
        covers = least_covers(search.family)
    return (named(sorted(search.family, key=by_length), names), named(covers, names))


# Least clashes found so far, as lists of parts' numbers by the work's order.
class Search:
    def __init__(self, names, sound, readings):
        self.names = names
        self.sound = sound
        self.readings = readings
        self.family = []
        self.explained = {}

    def finds_more(self, covers):
        before = len(self.family)
        for cover in covers:
            if tuple(cover) not in self.explained and self.meets_all_since(before, cover):
                self.look_beside(cover)
        return len(self.family) > before

    def meets_all_since(self, before, cover):
        return all([have_common(clash, cover) for clash in self.family[before:]])

    def look_beside(self, cover):
        others = [name for number, name in enumerate(self.names) if number not in cover]
        least = least_names(self.sound, self.readings, others)
        if least is None:
            self.explained[tuple(cover)] = True
        else:
            self.family.append([self.names.index(name) for name in least])


def have_common(some, others):
    return any([number in others for number in some])


def named(lists, names):
    told = []
    for numbers in lists:
        told.append([names[number] for number in numbers])
    return told


def names_of(work):
    return [part[0] for part in work[1]]


def sure_parts(work, explanations):
    return [name for name in names_of(work) if count_with(explanations, name) == len(explanations)]


def cleared_parts(work, explanations):
    return [name for name in names_of(work) if count_with(explanations, name) == 0]


def count_with(explanations, name):
    return len([one for one in explanations if name in one])
