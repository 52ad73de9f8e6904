"""Texts of webs, and how any text is parted into rows and words."""

from turncoats.errors import NoText
from turncoats.webs import Web

FIGURES = "0123456789"
MOST_FIGURES = 9


def rows_of(text):
    """The rows of a text, each as the list of its words; refuse what is no text."""
    if not isinstance(text, str):
        raise NoText(0)
    rows = text.split("\n")
    # Behind the last line feed there is no row, unless something stands there.
    if rows[-1] == "":
        rows.pop()
    return [[word for word in row.split(" ") if word != ""] for row in rows]


def is_figures(word):
    """Whether a word is one to nine figures."""
    return 1 <= len(word) <= MOST_FIGURES and all([sign in FIGURES for sign in word])


def is_numeral(word):
    """Whether a word is a number of one to nine figures without a needless 0 ahead."""
    return is_figures(word) and (word == "0" or word[0] != "0")


def turn_text(turn):
    """The numbers of a turn without blanks."""
    return "".join([str(k) for k in turn])


def figures_of(word):
    """The tuple of a word's figures, which a turn's text tells."""
    return tuple([int(sign) for sign in word])


def is_places_row(words):
    """Whether words are those of the row that tells how many places there are, and the size."""
    if len(words) != 4 or words[0] != "places" or words[2] != "size":
        return False
    return is_numeral(words[1]) and is_numeral(words[3])


def is_way_row(words):
    """Whether words are those of a row that tells a way."""
    if len(words) != 4 or words[0] != "way":
        return False
    return is_numeral(words[1]) and is_numeral(words[2]) and is_figures(words[3])


def web_text(web):
    """The text of a web."""
    rows = [f"places {web.many()} size {web.size()}\n"]
    for one, other, turn in web.ways():
        rows.append(f"way {one} {other} {turn_text(turn)}\n")
    return "".join(rows)


def read_web(text):
    """The web that a text tells of."""
    rows = rows_of(text)
    head = []
    ways = []
    for at, words in enumerate(rows):
        if not words:
            continue
        # The first row with words tells of the places, and no other one may.
        right = is_way_row(words) if head else is_places_row(words)
        if not right:
            raise NoText(at)
        if head:
            ways.append((int(words[1]), int(words[2]), figures_of(words[3])))
        else:
            head = [int(words[1]), int(words[3])]
    if not head:
        raise NoText(len(rows))
    return Web(head[0], ways, size=head[1])
