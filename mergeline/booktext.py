"""How a book is written as a text, and read from one."""

from mergeline.errors import BadBook
from mergeline.words import is_name, is_number, rows_of

# Entries of one good, and entries of a desk and its load.
GOOD_WORDS = ("come", "spoil")
LOAD_WORDS = ("take", "put")


def book_text(book):
    """The text of a book."""
    return "\n".join([" ".join(entry_words(entry)) for entry in book])


def read_book(text):
    """The book that a text tells."""
    book = []
    for number, words in rows_of(text):
        if not is_entry_row(words):
            raise BadBook(number, "row")
        book.append(entry_of(words))
    return book


def entry_words(entry):
    """The words of an entry's row."""
    head = [str(entry[1]), entry[0]]
    if entry[0] in GOOD_WORDS:
        return head + [str(entry[2])]
    return head + [entry[2]] + [str(good) for good in entry[3]]


def is_entry_row(words):
    """Whether these words are written as the row of an entry."""
    if len(words) < 2 or not is_number(words[0]):
        return False
    if words[1] in GOOD_WORDS:
        return len(words) == 3 and is_number(words[2])
    if words[1] not in LOAD_WORDS or len(words) < 4:
        return False
    return is_name(words[2]) and all([is_number(word) for word in words[3:]])


def entry_of(words):
    """The entry that the words of its row tell."""
    if words[1] in GOOD_WORDS:
        return (words[1], int(words[0]), int(words[2]))
    return (words[1], int(words[0]), words[2], tuple([int(word) for word in words[3:]]))
