"""The errors that the functions and classes of this package raise."""


class CheckError(ValueError):
    """The base of all errors of this package."""


class InvalidBase(CheckError):
    """A value is not a base."""


class InvalidModulus(CheckError):
    """A value is not a modulus."""


class InvalidRows(CheckError):
    """A value is not a tuple of rows."""


class InvalidWeights(CheckError):
    """A value is not a tuple of weights."""


class InvalidRemainder(CheckError):
    """A value is not a remainder by the modulus."""


class InvalidRule(CheckError):
    """A value is not a rule."""


class InvalidRules(CheckError):
    """A value is not a tuple of rules that go together."""


class InvalidCode(CheckError):
    """A value is not a code."""


class InvalidPartial(CheckError):
    """A value is not a partial code."""


class InvalidPlace(CheckError):
    """A value is not a place."""


class InvalidPlaces(CheckError):
    """A value is not a number of places."""


class InvalidNumber(CheckError):
    """A value is not the number of a code."""


class InvalidKind(CheckError):
    """A value is not a kind of slips."""


class InvalidReach(CheckError):
    """A value is not a reach."""


class InvalidDigit(CheckError):
    """A value is not a digit."""


class NotValid(CheckError):
    """A code is not valid."""


class NotAlike(CheckError):
    """Two rules have codes of different bases or lengths."""


class NoFilling(CheckError):
    """A partial code has no filling."""


class NoWeights(CheckError):
    """No weights notice what they are to notice; `most` places would have some."""

    def __init__(self, most):
        super().__init__(f"there are such weights for at most {most} places")
        self.most = most


class Complete(CheckError):
    """A code has no place for further digits."""


class NothingToUndo(CheckError):
    """No call is left that could be undone."""


class InvalidText(CheckError):
    """A text is wrong from `index` on; the index is None if it is no text at all."""

    def __init__(self, index=None):
        if index is None:
            super().__init__("a text is a string")
        else:
            super().__init__(f"this cannot stand at the index {index}")
        self.index = index


class InvalidCommand(CheckError):
    """A line is not a command."""
