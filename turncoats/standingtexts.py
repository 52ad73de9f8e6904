"""Texts of standings."""

from turncoats.errors import NoText
from turncoats.standings import Standing, is_name
from turncoats.webtexts import figures_of, is_figures, is_numeral, rows_of, turn_text


def is_folk_row(words):
    """Whether words are those of a row that tells where somebody stands, and in what."""
    return len(words) == 3 and is_name(words[0]) and is_numeral(words[1]) and is_figures(words[2])


def standing_text(standing):
    """The text of a standing."""
    rows = []
    for name in standing.names():
        rows.append(f"{name} {standing.where(name)} {turn_text(standing.coat(name))}\n")
    return "".join(rows)


def read_standing(web, text):
    """The standing in a web that a text tells of."""
    folk = {}
    for at, words in enumerate(rows_of(text)):
        if not words:
            continue
        if not is_folk_row(words) or words[0] in folk:
            raise NoText(at)
        folk[words[0]] = (int(words[1]), figures_of(words[2]))
    return Standing(web, folk)
