"""The errors that the program raises, each with its parameter as an attribute."""


class YesError(Exception):
    """The base class of all errors of the program."""


class BadTable(YesError):
    """Raised for a value that is not a table."""

    def __init__(self, thing):
        self.thing = thing


class BadKind(YesError):
    """Raised for a value that is not a kind of the table."""

    def __init__(self, thing):
        self.thing = thing


class BadTransaction(YesError):
    """Raised for a value that is not a transaction, or not one that the call can be about."""

    def __init__(self, thing):
        self.thing = thing


class BadFacts(YesError):
    """Raised for a value that is not facts."""

    def __init__(self, thing):
        self.thing = thing


class Clash(YesError):
    """Raised for two facts tuples that contain different facts for the transaction t."""

    def __init__(self, t):
        self.t = t


class IsOpen(YesError):
    """Raised for a transaction t that is neither kept nor dropped."""

    def __init__(self, t):
        self.t = t


class BadHistory(YesError):
    """Raised for a value that is not a history."""

    def __init__(self, thing):
        self.thing = thing


class BadOutcome(YesError):
    """Raised for a value that is not an outcome of the history."""

    def __init__(self, thing):
        self.thing = thing


class BadRun(YesError):
    """Raised for a value that is not a run."""

    def __init__(self, thing):
        self.thing = thing


class BadSite(YesError):
    """Raised for a value that is not the number of a site."""

    def __init__(self, thing):
        self.thing = thing


class BadCompletion(YesError):
    """Raised for a value that is not a completion of the run."""

    def __init__(self, thing):
        self.thing = thing


class BadStore(YesError):
    """Raised for a value that is not a store of the required kind."""

    def __init__(self, thing):
        self.thing = thing


class BadWord(YesError):
    """Raised for a value that is not a tuple of letters of the history."""

    def __init__(self, thing):
        self.thing = thing


class BadConditions(YesError):
    """Raised for a value that is not conditions as the call requires them."""

    def __init__(self, thing):
        self.thing = thing


class BadOperation(YesError):
    """Raised for a value that is not an operation."""

    def __init__(self, thing):
        self.thing = thing


class BadKeys(YesError):
    """Raised for a value that is not an ascending tuple of keys."""

    def __init__(self, thing):
        self.thing = thing


class BadLog(YesError):
    """Raised for a value that is not a log."""

    def __init__(self, thing):
        self.thing = thing


class BadTransactions(YesError):
    """Raised for a value that is not an ascending tuple of active transactions."""

    def __init__(self, thing):
        self.thing = thing


class BadStep(YesError):
    """Raised for a value that is not the position of a step that reads."""

    def __init__(self, thing):
        self.thing = thing


class BadMany(YesError):
    """Raised for a value that is not a number of sites."""

    def __init__(self, thing):
        self.thing = thing


class BadState(YesError):
    """Raised for a value that is not a state of the site."""

    def __init__(self, thing):
        self.thing = thing


class BadMessage(YesError):
    """Raised for a value that is not a message for the site."""

    def __init__(self, thing):
        self.thing = thing


class BadRows(YesError):
    """Raised for a value that is not a number of rows that a fall can leave."""

    def __init__(self, thing):
        self.thing = thing


class BadOrder(YesError):
    """Raised for a value that is not a possible order."""

    def __init__(self, thing):
        self.thing = thing


class BadScript(YesError):
    """Raised for a value that is not a script."""

    def __init__(self, thing):
        self.thing = thing


class BadInterleaving(YesError):
    """Raised for a value that is not an interleaving of the script."""

    def __init__(self, thing):
        self.thing = thing


class BadOrders(YesError):
    """Raised for a value that is not a tuple of orders."""

    def __init__(self, thing):
        self.thing = thing


class BadText(YesError):
    """Raised for a text that goes wrong at the line with this number, 0 for what is no text."""

    def __init__(self, at):
        self.at = at


class NotRight(YesError):
    """Raised for a history that is not right at every moment, as the certificate shows."""

    def __init__(self, certificate):
        self.certificate = certificate


class IsRight(YesError):
    """Raised for a history that is right now."""
