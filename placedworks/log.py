"""The log of a book as a text, and the book of such a text."""

from placedworks.book import Book
from placedworks.errors import NoText
from placedworks.kinds import is_word
from placedworks.texts import read_deed, read_rows, show_deed


def show_log(book):
    """The text of a book's log."""
    return "".join([f"{by} {show_deed(deed)}\n" for by, deed in book.log()])


def book_of(machines, text):
    """The book of the machines' names and a log's text."""
    book = Book(machines)
    read_rows(text, lambda row: do_row(book, row))
    return book


def do_row(book, row):
    """Do what a row of a log tells, by whom it tells."""
    by, blank, text = row.partition(" ")
    if not is_word(by):
        raise NoText("this row doesn't tell by whom")
    book.do(read_deed(text), by=by)
