"""The rows and words of a text: which words are names, which are written numbers."""

LETTERS = "abcdefghijklmnopqrstuvwxyz"
FIGURES = "0123456789"
MOST_SIGNS = 12
MOST_FIGURES = 60


def is_name(word):
    # The length goes ahead, so that the first sign is there to be looked at.
    if not 1 <= len(word) <= MOST_SIGNS:
        return False
    return word[0] in LETTERS and made_of(word, LETTERS + FIGURES)


def is_number(word):
    figures = word[1:] if word.startswith("-") else word
    if not 1 <= len(figures) <= MOST_FIGURES:
        return False
    if not made_of(figures, FIGURES):
        return False
    # The whole word is compared, for nought has no `-` ahead.
    return figures[0] != "0" or word == "0"


def made_of(word, signs):
    # Python's own isdigit and isalpha also take signs from beyond ASCII.
    return all([sign in signs for sign in word])


def rows_of(text):
    # Pairs of a row's number and its words. Rows without words are passed
    # over here alone: they count, so that a refusal tells the text's own number.
    rows = []
    for row, line in enumerate(text.split("\n")):
        words = [word for word in line.split(" ") if word != ""]
        if words:
            rows.append((row, words))
    return rows
