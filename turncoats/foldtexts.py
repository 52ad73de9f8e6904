"""Texts of folds."""

from turncoats.errors import NoText
from turncoats.turns import is_number
from turncoats.webtexts import is_numeral, rows_of

WAYS = {"+": 1, "-": -1}


def item_text(item):
    """The word of an item of a line."""
    if is_number(item):
        return str(item)
    return f"+{item[1]}" if item[2] == 1 else f"-{item[1]}"


def fold_text(fold):
    """The text of a fold that is right."""
    rows = []
    for begin, items in fold:
        rows.append(" ".join([f"{begin}:", *[item_text(item) for item in items]]) + "\n")
    return "".join(rows)


def is_begin(word):
    """Whether a word is a number with a colon right behind it."""
    return word[-1] == ":" and is_numeral(word[:-1])


def is_item(word):
    """Whether a word is that of an item of a line."""
    return is_numeral(word[1:] if word[0] in WAYS else word)


def is_line_row(words):
    """Whether words are those of a line's row."""
    return len(words) > 0 and is_begin(words[0]) and all([is_item(word) for word in words[1:]])


def item_of(word):
    """The item that a word tells."""
    return ("line", int(word[1:]), WAYS[word[0]]) if word[0] in WAYS else int(word)


def read_fold(text):
    """The tuple of lines that a text tells; whether they are a fold's isn't looked at."""
    lines = []
    for at, words in enumerate(rows_of(text)):
        if not is_line_row(words):
            raise NoText(at)
        lines.append((int(words[0][:-1]), tuple([item_of(word) for word in words[1:]])))
    return tuple(lines)
