"""Domains: which codes a column or an outcome has, and what each code is worth."""

from rowjudge.errors import BadDomain, BadNumber, Outside

SMALL_LETTERS = "abcdefghijklmnopqrstuvwxyz"
FIGURES = "0123456789"
MOST_SIGNS = 12
MOST_FIGURES = 60
MOST_WORDS = 40


# Signs are looked up one by one: Python's own tests of letters and figures take more signs than the ASCII ones.
def all_among(text, signs):
    for sign in text:
        if sign not in signs:
            return False
    return True


def is_word(text):
    return 1 <= len(text) <= MOST_SIGNS and text != "not" and all_among(text, SMALL_LETTERS)


def is_number(text):
    if text == "0":
        return True
    figures = text[1:] if text.startswith("-") else text
    return 1 <= len(figures) <= MOST_FIGURES and figures[0] != "0" and all_among(figures, FIGURES)


def number_of(text):
    if not is_number(text):
        raise BadNumber(f"{text!r} writes no number")
    return int(text)


def number_text(number):
    return str(number)


# True and False pass for int in Python, but are no whole numbers here.
def is_whole(value):
    return isinstance(value, int) and not isinstance(value, bool)


class Domain:
    def __init__(self, low, high):
        self.low = low
        self.high = high

    def bears(self, value):
        raise NotImplementedError("told by Numbers and Words")

    def borne_code(self, value):
        raise NotImplementedError("told by Numbers and Words")

    def value_at(self, code):
        raise NotImplementedError("told by Numbers and Words")

    def written(self):
        raise NotImplementedError("told by Numbers and Words")

    def has_code(self, value):
        return is_whole(value) and self.low <= value <= self.high

    def code(self, value):
        if not self.bears(value):
            raise Outside(f"{value!r} is no value of the domain")
        return self.borne_code(value)

    def worth(self, code):
        if not self.has_code(code):
            raise Outside(f"{code!r} is no code of the domain")
        return self.value_at(code)

    def count_of(self):
        return self.high - self.low + 1

    def whole(self):
        return [(self.low, self.high)]


class Numbers(Domain):
    def __init__(self, low, high):
        if low > high:
            raise BadDomain("the low is above the high")
        Domain.__init__(self, low, high)

    def bears(self, value):
        return self.has_code(value)

    def borne_code(self, value):
        return value

    def value_at(self, code):
        return code

    def written(self):
        return number_text(self.low) + ".." + number_text(self.high)


class Words(Domain):
    def __init__(self, words):
        if not 1 <= len(words) <= MOST_WORDS:
            raise BadDomain("a domain of words has 1 to 40 of them")
        for word in words:
            if not is_word(word):
                raise BadDomain(f"{word!r} is no word")
        if len(set(words)) < len(words):
            raise BadDomain("a word stands twice")
        Domain.__init__(self, 0, len(words) - 1)
        # A copy, so that the asker's list may change behind the call.
        self.words = list(words)

    def bears(self, value):
        return value in self.words

    def borne_code(self, value):
        return self.words.index(value)

    def value_at(self, code):
        return self.words[code]

    def written(self):
        return ", ".join(self.words)


def alike(one, other):
    if isinstance(one, Numbers) and isinstance(other, Numbers):
        return one.low == other.low and one.high == other.high
    if isinstance(one, Words) and isinstance(other, Words):
        return one.words == other.words
    return False


def read_domain(text):
    # No word has a dot, so two of them settle which of the two forms it can be.
    if ".." in text:
        return read_numbers(text)
    return Words(text.split(", "))


def read_numbers(text):
    ends = text.partition("..")
    low = ends[0]
    high = ends[2]
    if not is_number(low) or not is_number(high):
        raise BadDomain(f"{text!r} writes no domain")
    return Numbers(number_of(low), number_of(high))
