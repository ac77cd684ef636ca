"""Forms: one for each function from codes to leaves that is alike all over some stretches."""

from rowjudge.errors import TooFine
from rowjudge.spans import stretches

MOST_GRAIN = 300


def grain(bounds, marks):
    product = 1
    for parts in cut_columns(bounds, marks):
        product *= len(parts)
    return product


def cut_columns(bounds, marks):
    return [stretches(bound[0], bound[1], cuts) for bound, cuts in zip(bounds, marks)]


def built(bounds, marks, leaf):
    if grain(bounds, marks) > MOST_GRAIN:
        raise TooFine("the grain is above 300")
    return layered(cut_columns(bounds, marks), [], leaf)


# `ahead` are the codes of the columns gone through: a new list for each way down, so `leaf` may keep or change it.
def layered(columns, ahead, leaf):
    if not columns:
        return leaf(ahead)
    return closed([(low, high, layered(columns[1:], ahead + [low], leaf)) for low, high in columns[0]])


# Neighbours with the same form beneath become one triple, or one function would have several forms.
def closed(triples):
    form = []
    for low, high, beneath in triples:
        if form and form[-1][2] == beneath:
            form[-1] = (form[-1][0], high, beneath)
        else:
            form.append((low, high, beneath))
    return tuple(form)


# The codes tell how deep the form is: a leaf may be a tuple too, so it can't be told by its own looks.
def look(form, codes):
    found = form
    for code in codes:
        found = beneath_code(found, code)
    return found


def beneath_code(form, code):
    at = 0
    while form[at][1] < code:
        at += 1
    return form[at][2]


def mapped(form, deep, change):
    if deep == 0:
        return change(form)
    return closed([(low, high, mapped(beneath, deep - 1, change)) for low, high, beneath in form])


def paired(one, other, deep, pair):
    if deep == 0:
        return pair(one, other)
    triples = []
    low = one[0][0]
    at_one = 0
    at_other = 0
    # The bounds are the same, so both forms come to their end at once.
    while at_one < len(one):
        high = min(one[at_one][1], other[at_other][1])
        triples.append((low, high, paired(one[at_one][2], other[at_other][2], deep - 1, pair)))
        if one[at_one][1] == high:
            at_one += 1
        if other[at_other][1] == high:
            at_other += 1
        low = high + 1
    return closed(triples)


def boxes(form, deep):
    if deep == 0:
        return [((), form)]
    told = []
    for low, high, beneath in form:
        for box, leaf in boxes(beneath, deep - 1):
            told.append((((low, high),) + box, leaf))
    return told


def marks_of(form, deep):
    if deep == 0:
        return []
    # Neighbouring triples never have the same form beneath, so each low but the first is a mark.
    marks = [[low for low, high, beneath in form[1:]]]
    further = [marks_of(beneath, deep - 1) for low, high, beneath in form]
    for column in range(deep - 1):
        marks.append(gathered([lists[column] for lists in further]))
    return marks


def gathered(lists):
    numbers = []
    for some in lists:
        numbers.extend(some)
    return sorted(set(numbers))


def volume(box):
    product = 1
    for low, high in box:
        product *= high - low + 1
    return product


def corner(box):
    return [low for low, high in box]
