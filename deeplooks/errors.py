"""The errors: each one keeps the name or the place of what is wrong."""


class DeepError(Exception):
    """The base class of all errors of the package."""

    def __init__(self, told):
        self._told = told

    def __str__(self):
        name = self.__class__.__name__
        return f"{name}: {self._told!s}"


class BadNumber(DeepError):
    """A number is of another kind, or out of its bounds."""

    def __init__(self, name):
        DeepError.__init__(self, name)
        self.name = name


class BadSet(DeepError):
    """What should be a set is none."""

    def __init__(self, name):
        DeepError.__init__(self, name)
        self.name = name


class BadSystem(DeepError):
    """A system cannot be made."""

    def __init__(self, name):
        DeepError.__init__(self, name)
        self.name = name


class BadFoe(DeepError):
    """A foe cannot be made, or does not belong to the rest."""

    def __init__(self, name):
        DeepError.__init__(self, name)
        self.name = name


class BadPhrase(DeepError):
    """A phrase cannot be made, or does not fit."""

    def __init__(self, name):
        DeepError.__init__(self, name)
        self.name = name


class BadOrder(DeepError):
    """An order cannot be made."""

    def __init__(self, name):
        DeepError.__init__(self, name)
        self.name = name


class BadEvidence(DeepError):
    """Evidence cannot be made, or is of another kind."""

    def __init__(self, name):
        DeepError.__init__(self, name)
        self.name = name


class BadStep(DeepError):
    """A machine cannot do this step."""

    def __init__(self, name):
        DeepError.__init__(self, name)
        self.name = name


class BadPrices(DeepError):
    """What should be prices is none."""

    def __init__(self, name):
        DeepError.__init__(self, name)
        self.name = name


class BadTour(DeepError):
    """What should be a tour is none."""

    def __init__(self, name):
        DeepError.__init__(self, name)
        self.name = name


class BadBook(DeepError):
    """The book of a desk does not allow this."""

    def __init__(self, name):
        DeepError.__init__(self, name)
        self.name = name


class TooMany(DeepError):
    """There are more things than can be gone through."""

    def __init__(self, name):
        DeepError.__init__(self, name)
        self.name = name


class NotThere(DeepError):
    """Nothing is there."""

    def __init__(self, name):
        DeepError.__init__(self, name)
        self.name = name


class BadText(DeepError):
    """A text cannot be read from this place on."""

    def __init__(self, place):
        DeepError.__init__(self, place)
        self.place = place


class BadRow(DeepError):
    """A row is none, or has no such position."""

    def __init__(self, place):
        DeepError.__init__(self, place)
        self.place = place


class BadLine(DeepError):
    """A line has something else at this place."""

    def __init__(self, place):
        DeepError.__init__(self, place)
        self.place = place


class BadRun(DeepError):
    """What should be a run is none at this place, or has another length."""

    def __init__(self, place):
        DeepError.__init__(self, place)
        self.place = place


class BadDeed(DeepError):
    """A deed is none, or is not allowed."""

    def __init__(self, place):
        DeepError.__init__(self, place)
        self.place = place


class BadLot(DeepError):
    """A level of a lot is wrong."""

    def __init__(self, place):
        DeepError.__init__(self, place)
        self.place = place


class BadAim(DeepError):
    """What should be an aim is none; there is nothing more to tell."""

    def __init__(self):
        pass

    def __str__(self):
        return "BadAim"
