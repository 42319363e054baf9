"""The errors by which the package refuses what it is handed."""


class BendError(ValueError):
    """The base of all refusals."""


class BadPart(BendError):
    """No such part."""


class NotEven(BendError):
    """A row of worths that doesn't bend evenly; `at` is the place of the first wrong bend."""

    def __init__(self, at):
        super().__init__(f"the worth at place {at} of the list bends the wrong way")
        self.at = at


class BadHall(BendError):
    """No such hall."""


class BadPoint(BendError):
    """No point of it."""


class BadNumber(BendError):
    """No number of the kind that is asked."""


class BadChart(BendError):
    """No such chart."""


class Crooked(BendError):
    """A chart that doesn't bend evenly; `one` and `other` are two points that show it."""

    def __init__(self, one, other):
        super().__init__("two points are worth less than their halves")
        # The asker may change the lists, which must not reach those of the chart.
        self.one = list(one)
        self.other = list(other)


class BadText(BendError):
    """A text that is no hall; `row` is the first row that is none."""

    def __init__(self, row):
        super().__init__(f"row {row} of the text is none")
        self.row = row
