"""The auditor: it sees a book's rows alone, and tells the first one that no book would have written there."""

from quotatree.book import Book, deed_of
from quotatree.errors import TreeError


def begun_by(row):
    if row[0] != "first":
        return None
    try:
        book = Book(row[1], row[2], row[3], row[4], row[5])
    except TreeError:
        return None
    return book if book.rows() == [row] else None


def writes(book, row):
    # A first row tells no deed, so no book writes it behind another row.
    try:
        return book.do(deed_of(row)) == row
    except TreeError:
        return False


def book_of(rows):
    book = begun_by(rows[0])
    for row in rows[1:]:
        book.do(deed_of(row))
    return book


def uses_of(book):
    uses = {}
    for name in book.hall.names():
        uses[name] = book.use(name)
    return uses


def audit(rows):
    if len(rows) == 0:
        return (None, {})
    book = begun_by(rows[0])
    if book is None:
        return (0, {})
    for place in range(1, len(rows)):
        if not writes(book, rows[place]):
            # The false row's deed may have changed this book, so the rows ahead of it are told to another one.
            return (place, uses_of(book_of(rows[:place])))
    return (None, uses_of(book))
