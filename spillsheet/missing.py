"""Work that cannot be finished because answers are missing."""


class MissingAnswers(Exception):
    """Questions are missing, at least one of which must be answered to get further."""

    def __init__(self, questions):
        Exception.__init__(self, "answers are missing")
        self.questions = questions


def outcome_of(work, *arguments):
    """What comes of the work: ("answer", value) or ("missing", questions)."""
    try:
        return ("answer", work(*arguments))
    except MissingAnswers as e:
        return ("missing", e.questions)


def joined(lists):
    """The questions of several lists, one list after the other, without repetitions."""
    return list({question: True for questions in lists for question in questions})
