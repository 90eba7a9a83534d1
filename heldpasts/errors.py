"""All errors of the store: each one stands directly under StoreError."""


class StoreError(ValueError):
    """Whatever a call of this package refuses."""


class InvalidSigns(StoreError):
    """No number of signs that a block may have."""


class InvalidImage(StoreError):
    """No image of blocks."""


class InvalidCount(StoreError):
    """No number of the kind that is asked for."""


class InvalidIndex(StoreError):
    """No index of what is asked for."""


class InvalidBlock(StoreError):
    """No text that fits a block."""


class InvalidChoice(StoreError):
    """No choice of what a cut leaves."""


class InvalidText(StoreError):
    """No text."""


class InvalidArea(StoreError):
    """No area of blocks that is there."""


class InvalidRecord(StoreError):
    """No record."""


class InvalidChanges(StoreError):
    """No changes, or no marks."""


class InvalidNumber(StoreError):
    """No number of a past that can be read."""


class InvalidRow(StoreError):
    """No row that is right here."""


class InvalidValue(StoreError):
    """No value."""


class InvalidCondition(StoreError):
    """No condition over the columns."""


class InvalidSchema(StoreError):
    """No schema."""


class InvalidName(StoreError):
    """No name."""


class InvalidQuestion(StoreError):
    """No question."""


class InvalidPlaces(StoreError):
    """No places in the rows of an answer."""


class InvalidPlan(StoreError):
    """No plan that is right here."""


class InvalidRoad(StoreError):
    """No road to the pairs."""


class InvalidHistory(StoreError):
    """No history."""


class InvalidEntries(StoreError):
    """No entries."""


class InvalidLetter(StoreError):
    """No letter."""


class PowerCut(StoreError):
    """The disk has no power any more."""


class LogFull(StoreError):
    """The log has too little room."""


class NoStore(StoreError):
    """The disk bears no store."""


class PageKept(StoreError):
    """The page is kept."""


class StoreFull(StoreError):
    """There are too few spare pages."""


class Ended(StoreError):
    """The session has ended."""


class Refused(StoreError):
    """What is asked for is not done."""


class InvalidCode(StoreError):
    """No code goes on at this index."""

    def __init__(self, index):
        super().__init__("no code goes on here")
        self.index = index


class InvalidCommand(StoreError):
    """No command goes on at this index."""

    def __init__(self, index):
        super().__init__("no command goes on here")
        self.index = index


class TooMany(StoreError):
    """More than so many."""

    def __init__(self, count):
        super().__init__("more than can be told")
        self.count = count


class TooLong(StoreError):
    """The entry of this text has no room."""

    def __init__(self, text):
        super().__init__("an entry has no room")
        self.text = text


class TooOld(StoreError):
    """Only this past and newer ones can be told."""

    def __init__(self, past):
        super().__init__("the past is too old")
        self.past = past


class Conflict(StoreError):
    """Others changed these keys behind the snapshot."""

    def __init__(self, lot):
        super().__init__("others changed the keys")
        self.lot = lot


class Held(StoreError):
    """Prepared sessions by these names hold a key."""

    def __init__(self, lot):
        super().__init__("prepared sessions hold a key")
        self.lot = lot


class NotSerial(StoreError):
    """The commit would close this ring."""

    def __init__(self, ring):
        super().__init__("the commit would close a ring")
        self.ring = ring


class NoTable(StoreError):
    """There is no table with this name."""

    def __init__(self, name):
        super().__init__("there is no such table")
        self.name = name


class NoName(StoreError):
    """Nothing stands by this name."""

    def __init__(self, name):
        super().__init__("nothing stands by this name")
        self.name = name


class NoIndex(StoreError):
    """There is no index with this name."""

    def __init__(self, name):
        super().__init__("there is no such index")
        self.name = name


class Taken(StoreError):
    """What this word names is there already."""

    def __init__(self, word):
        super().__init__("it is there already")
        self.word = word


class Alike(StoreError):
    """The rows with these two keys have the same values."""

    def __init__(self, pair):
        super().__init__("two rows are alike")
        self.pair = pair


class Missing(StoreError):
    """There is no row with this key."""

    def __init__(self, row):
        super().__init__("there is no such row")
        self.row = row
