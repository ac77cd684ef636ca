"""Ways of choosing: the verdict that is made of the outcome codes of the rows that fit."""

from rowjudge.errors import BadWay

# Pairs are never changed, so one of them may be told to every asker.
NONE = ("none", 0)
CLASH = ("clash", 0)


class Way:
    def __init__(self, called):
        self.called = called

    def verdict(self, codes, outcome):
        if not codes:
            return NONE
        return self.chosen(codes, outcome)

    def chosen(self, codes, outcome):
        raise NotImplementedError("told by each way of its own")


class First(Way):
    def __init__(self):
        Way.__init__(self, "first")

    def chosen(self, codes, outcome):
        return ("say", codes[0])


class Only(Way):
    def __init__(self):
        Way.__init__(self, "only")

    def chosen(self, codes, outcome):
        return ("say", codes[0]) if len(codes) == 1 else CLASH


class Like(Way):
    def __init__(self):
        Way.__init__(self, "like")

    def chosen(self, codes, outcome):
        return ("say", codes[0]) if len(set(codes)) == 1 else CLASH


class Low(Way):
    def __init__(self):
        Way.__init__(self, "low")

    def chosen(self, codes, outcome):
        return ("say", min(codes))


class High(Way):
    def __init__(self):
        Way.__init__(self, "high")

    def chosen(self, codes, outcome):
        return ("say", max(codes))


class Sum(Way):
    def __init__(self):
        Way.__init__(self, "sum")

    def chosen(self, codes, outcome):
        return ("say", max(outcome.low, min(outcome.high, sum(codes))))


def way_by(name):
    for way in [First(), Only(), Like(), Low(), High(), Sum()]:
        if way.called == name:
            return way
    raise BadWay(f"{name!r} is no way")
