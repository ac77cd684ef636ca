"""What is written in a field of a table: the codes that a row takes in a column; and how a value is written."""

from rowjudge.domains import Words, number_of, number_text
from rowjudge.errors import BadCell, BadNumber, Outside
from rowjudge.spans import tidy, without

ALL = "-"
NOT = "not "
UP_TO = ".."


def read_cell(domain, text):
    # Cut off once only: a second `not ` is left to be refused as a part.
    if text.startswith(NOT):
        return without(domain.whole(), read_set(domain, text[len(NOT):]))
    return read_set(domain, text)


def read_set(domain, text):
    if text == ALL:
        return domain.whole()
    return tidy([read_part(domain, part) for part in text.split(", ")])


def read_part(domain, part):
    if UP_TO in part and not isinstance(domain, Words):
        return read_range(domain, part)
    code = code_in_cell(domain, part)
    return (code, code)


def read_range(domain, part):
    ends = part.partition(UP_TO)
    if part == UP_TO:
        raise BadCell("a range has at least one end")
    low = code_in_cell(domain, ends[0]) if ends[0] else domain.low
    high = code_in_cell(domain, ends[2]) if ends[2] else domain.high
    if low > high:
        raise BadCell(f"{part!r} begins above its end")
    return (low, high)


def code_in_cell(domain, text):
    try:
        return read_value(domain, text)
    except (BadNumber, Outside):
        raise BadCell(f"{text!r} is no value of the domain") from None


def show_cell(domain, spans):
    if not spans:
        return NOT + ALL
    if spans == domain.whole():
        return ALL
    if isinstance(domain, Words):
        return ", ".join(words_of(domain, spans))
    return ", ".join([show_range(domain, low, high) for low, high in spans])


def words_of(domain, spans):
    words = []
    for low, high in spans:
        words.extend(domain.words[low:high + 1])
    return words


def show_range(domain, low, high):
    if low == high:
        return number_text(low)
    if low == domain.low:
        return UP_TO + number_text(high)
    if high == domain.high:
        return number_text(low) + UP_TO
    return number_text(low) + UP_TO + number_text(high)


def read_value(domain, text):
    if isinstance(domain, Words):
        return domain.code(text)
    return domain.code(number_of(text))


def show_value(domain, code):
    if isinstance(domain, Words):
        return domain.worth(code)
    return number_text(domain.worth(code))
