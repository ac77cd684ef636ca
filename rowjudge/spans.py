"""Finite sets of whole numbers, told by their spans: pairs (low, high), ascending and apart."""


def tidy(pairs):
    spans = []
    for low, high in sorted(pairs):
        if low > high:
            continue
        # A pair that only touches the span ahead goes into it too, or one set would have several lists.
        if spans and low <= spans[-1][1] + 1:
            spans[-1] = (spans[-1][0], max(spans[-1][1], high))
        else:
            spans.append((low, high))
    return spans


def holds(spans, number):
    for low, high in spans:
        if low <= number <= high:
            return True
    return False


def either(ones, others):
    return tidy(ones + others)


# Numbers side by side in what both hold lie in one span of each, so what is told here is apart as it is.
def both(ones, others):
    shared = []
    at_one = 0
    at_other = 0
    while at_one < len(ones) and at_other < len(others):
        one = ones[at_one]
        other = others[at_other]
        low = max(one[0], other[0])
        high = min(one[1], other[1])
        if low <= high:
            shared.append((low, high))
        if one[1] < other[1]:
            at_one += 1
        else:
            at_other += 1
    return shared


# As `both` goes, but it ends at the first number that is found.
def meet(ones, others):
    at_one = 0
    at_other = 0
    while at_one < len(ones) and at_other < len(others):
        one = ones[at_one]
        other = others[at_other]
        if one[1] < other[0]:
            at_one += 1
        elif other[1] < one[0]:
            at_other += 1
        else:
            return True
    return False


def without(ones, others):
    if not ones:
        return []
    return both(ones, gaps(others, ones[0][0], ones[-1][1]))


# The spans of the numbers from low to high that the given spans do not hold.
def gaps(spans, low, high):
    free = []
    start = low
    for first, last in spans:
        end = min(first - 1, high)
        if start <= end:
            free.append((start, end))
        # A span that lies below low must not draw the start back.
        start = max(start, last + 1)
    if start <= high:
        free.append((start, high))
    return free


def many(spans):
    return sum([high - low + 1 for low, high in spans])


def edges(spans, low, high):
    # Spans lie apart, so each low and each number behind a high is an edge, and none is told twice.
    turns = []
    for first, last in spans:
        turns.append(first)
        turns.append(last + 1)
    return [turn for turn in turns if low < turn <= high]


def stretches(low, high, marks):
    cuts = sorted(set([mark for mark in marks if low < mark <= high]))
    lows = [low] + cuts
    highs = [cut - 1 for cut in cuts] + [high]
    return list(zip(lows, highs))
