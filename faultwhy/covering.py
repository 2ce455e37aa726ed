"""The least sets that meet every list of a family."""


# Sets are counted through as whole numbers, one bit for each member, so that
# what holds of all sets is found in one walk over them, however many lists there are.


def least_covers(family):
    members = members_of(family)
    bits = bits_for(len(members))
    missed = sets_that_hold_a_list(family, members, bits)
    everything = sum(bits)
    covers = []
    for cover in range(everything + 1):
        # A set meets the family where no list lies wholly beside it.
        if not missed[everything - cover] and is_least(cover, everything, bits, missed):
            covers.append([member for member, bit in zip(members, bits) if cover & bit])
    return sorted(covers, key=by_length)


def by_length(numbers):
    return (len(numbers), numbers)


def members_of(family):
    seen = {}
    for numbers in family:
        for number in numbers:
            seen[number] = True
    return sorted(seen)


def bits_for(count):
    bits = []
    bit = 1
    while len(bits) < count:
        bits.append(bit)
        bit = bit * 2
    return bits


def sets_that_hold_a_list(family, members, bits):
    bit_of = dict(zip(members, bits))
    holds = [False for one in range(sum(bits) + 1)]
    for numbers in family:
        holds[sum([bit_of[number] for number in numbers])] = True
    for bit in bits:
        for one in range(len(holds)):
            if one & bit and holds[one - bit]:
                holds[one] = True
    return holds


def is_least(cover, everything, bits, missed):
    for bit in bits:
        if cover & bit and not missed[everything - cover + bit]:
            return False
    return True
