"""A work written as a text."""


def write_work(work):
    rows = [wire_row(name, kind, shut) for name, kind, shut in work[0]]
    for name, sort, pins, number, ways in work[1]:
        rows.append(row_of(["part", name, sort] + pins, number))
        rows.extend([row_of(["way", name, word], count) for word, count in ways])
    return "\n".join(rows)


def wire_row(name, kind, shut):
    words = ["wire", name, kind]
    return " ".join(words + ["shut"] if shut else words)


def row_of(words, number):
    return " ".join(words if number is None else words + [str(number)])
