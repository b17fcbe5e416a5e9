"""What is worked out once for each book."""


def kept_answer(book, careful, work_out):
    """What a function works out of a book and a mode: it is called once for each book.

    The answer is kept in the book, so it must not lead back to it.
    """
    answers = book.kept_answers()
    key = (work_out, careful)
    if key not in answers:
        answers[key] = work_out(book, careful)
    return answers[key]
