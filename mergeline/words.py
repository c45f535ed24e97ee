"""Names, numbers, rows and words: how all texts of the program are written."""

LETTERS = "abcdefghijklmnopqrstuvwxyz"
FIGURES = "0123456789"
LONGEST_NAME = 8
LONGEST_NUMBER = 6


def is_made_of(signs, longest, word):
    """Whether the word has 1 to longest signs, all of them among these."""
    return 1 <= len(word) <= longest and all([sign in signs for sign in word])


def is_name(word):
    """Whether the word is a name: 1 to 8 letters a to z."""
    return is_made_of(LETTERS, LONGEST_NAME, word)


def is_number(word):
    """Whether the word is a number: 1 to 6 figures, the first one no 0 but for 0 itself."""
    # Not int(word) in a try: int also reads signs, blanks and low lines.
    return is_made_of(FIGURES, LONGEST_NUMBER, word) and (word == "0" or word[0] != "0")


def words_of(row):
    """The list of a row's words."""
    # Not row.split(): that also parts at signs that are no blanks.
    return [word for word in row.split(" ") if word != ""]


def rows_of(text):
    """The list of pairs (number, words) of the rows that have words; all rows are counted, from 0."""
    rows = []
    for number, row in enumerate(text.split("\n")):
        words = words_of(row)
        if words:
            rows.append((number, words))
    return rows
