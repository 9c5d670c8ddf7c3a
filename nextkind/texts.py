"""The texts of books."""


def book_text(book):
    """The text of a book: a line for its quota, and one for each kind with its rule."""
    return "\n".join([f"quota {book.quota}"] + [f"kind {kind} {book[kind]}" for kind in book])
