"""From a work's text and a text of deeds to the answer, and the answer as a text."""

from faultwhy.errors import TooMany, Unread
from faultwhy.explaining import cleared_parts, sure_parts
from faultwhy.logs import Log
from faultwhy.naming import named_ways
from faultwhy.words import is_name, is_number, rows_of
from faultwhy.works import read_work


def answer(work_text, deeds_text):
    work = read_work(work_text)
    log = log_after(work, deeds_text)
    explanations = log.explanations()
    return (
        log.standing(),
        log.clashes(),
        explanations,
        [fits_of(work, log, one) for one in explanations],
        sure_parts(work, explanations),
        cleared_parts(work, explanations),
        log.next_place(),
    )


def log_after(work, deeds_text):
    rows = rows_of(deeds_text)
    if not rows:
        raise Unread(0)
    log = new_log(work, rows[0][0], rows[0][1])
    for row, words in rows[1:]:
        do_deed(log, row, words)
    return log


def new_log(work, row, words):
    if len(words) != 2 or words[0] != "turns" or not is_number(words[1]):
        raise Unread(row)
    return Log(work, int(words[1]))


def do_deed(log, row, words):
    if is_deed(words, "put", 2):
        log.put(words[1], int(words[2]), int(words[3]))
    elif is_deed(words, "back", 1):
        log.take_back(words[1], int(words[2]))
    else:
        raise Unread(row)


def is_deed(words, first, numbers):
    if len(words) != 2 + numbers or words[0] != first:
        return False
    return is_name(words[1]) and all([is_number(word) for word in words[2:]])


def fits_of(work, log, explanation):
    try:
        return named_ways(work, log.turns, log.standing(), explanation)
    except TooMany:
        return None


def write_answer(told):
    rows = [row_of("read", reading) for reading in told[0]]
    rows.extend([row_of("clash", clash) for clash in told[1]])
    for explanation, fits in zip(told[2], told[3]):
        rows.append(row_of("blame", explanation))
        rows.extend(fit_rows(fits))
    rows.append(row_of("sure", told[4]))
    rows.append(row_of("cleared", told[5]))
    rows.append(row_of("next", ["none"] if told[6] is None else told[6]))
    return "\n".join(rows)


def fit_rows(fits):
    if fits is None:
        return [row_of("fit", ["many"])]
    return [row_of("fit", numbers) for numbers in fits]


def row_of(first, others):
    return " ".join([first] + [str(other) for other in others])
