"""The refusals of bookcuts."""


class CutError(ValueError):
    """Any refusal."""


class NoPlace(CutError):
    """What was handed in is no place of the text, or no number of a cut."""


class NoCut(CutError):
    """What was handed in is no cut of the text."""


class NoText(CutError):
    """What was handed in is no text of small letters."""


class NoWord(CutError):
    """What was handed in is no word, or none of the book."""


class NoWriting(CutError):
    """What was handed in is not the writing of a book."""


class NoRow(CutError):
    """What was handed in is no row for a desk."""
