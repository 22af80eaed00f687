"""The errors of the package.

Each message is a fixed text: a value that was passed may be one that can't be written out.
"""


class SightError(Exception):
    """The base class of all errors of this package."""


class BadShape(SightError):
    """A value stands in the place of a shape and is none."""

    def __init__(self, thing):
        super().__init__("the value is no shape here")
        self.thing = thing


class BadModulus(SightError):
    """A value stands in the place of a modulus and is none."""

    def __init__(self, thing):
        super().__init__("the value is no modulus here")
        self.thing = thing


class BadLot(SightError):
    """A value stands in the place of a lot and is none."""

    def __init__(self, thing):
        super().__init__("the value is no lot here")
        self.thing = thing


class BadWord(SightError):
    """A value stands in the place of a word and is none."""

    def __init__(self, thing):
        super().__init__("the value is no word here")
        self.thing = thing


class BadList(SightError):
    """A value stands in the place of a list and is none."""

    def __init__(self, thing):
        super().__init__("the value is no list here")
        self.thing = thing


class BadFamily(SightError):
    """A value stands in the place of a family and is none."""

    def __init__(self, thing):
        super().__init__("the value is no family here")
        self.thing = thing


class BadSystem(SightError):
    """A value stands in the place of a system and is none."""

    def __init__(self, thing):
        super().__init__("the value is no system here")
        self.thing = thing


class BadScheme(SightError):
    """A value stands in the place of a scheme and is none."""

    def __init__(self, thing):
        super().__init__("the value is no scheme here")
        self.thing = thing


class BadPlan(SightError):
    """A value stands in the place of a plan and is none."""

    def __init__(self, thing):
        super().__init__("the value is no plan here")
        self.thing = thing


class BadDemand(SightError):
    """A value stands in the place of a demand and is none."""

    def __init__(self, thing):
        super().__init__("the value is no demand here")
        self.thing = thing


class BadQuestion(SightError):
    """A value stands in the place of a question and is none."""

    def __init__(self, thing):
        super().__init__("the value is no question here")
        self.thing = thing


class BadTold(SightError):
    """A value stands in the place of told worlds and is none."""

    def __init__(self, thing):
        super().__init__("the value is no tuple of told worlds here")
        self.thing = thing


class BadWeb(SightError):
    """A value stands in the place of a web and is none."""

    def __init__(self, thing):
        super().__init__("the value is no web here")
        self.thing = thing


class BadNumber(SightError):
    """A value stands in the place of a number or a position and is none."""

    def __init__(self, thing):
        super().__init__("the value is no number or position here")
        self.thing = thing


class Barred(SightError):
    """A demand can't be kept, as the certificate shows."""

    def __init__(self, certificate):
        super().__init__("the demand can't be kept")
        self.certificate = certificate
