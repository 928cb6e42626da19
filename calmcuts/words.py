"""The words of pages and of a desk's lines."""

from calmcuts.errors import BadText

# The word for the outermost nest, which has no letters, and for lists without anything in them.
NONE = "-"
MOST_FIGURES = 6


def is_figures(text):
    """Whether a text is a number from 0 on in figures, of any number, without a needless nought."""
    return text.isascii() and text.isdigit() and (text == "0" or not text.startswith("0"))


def read_figures(text):
    """The number from 0 on whose text this is; of more than six figures there are none."""
    # Counted before they are read, for Python's int refuses texts of thousands of figures with an error of its own.
    if not is_figures(text) or len(text) > MOST_FIGURES:
        raise BadText(0)
    return int(text)


def joined(words):
    """Words with commas between, or what stands for none."""
    return ",".join(words) if len(words) > 0 else NONE
