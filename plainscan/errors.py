"""The errors of the program: each class stands under ScanError alone."""


class ScanError(ValueError):
    """The base of all errors of this package."""


class InvalidText(ScanError):
    """Given: no text, no sign, or no line that can be read."""
    def __init__(self, given):
        self.given = given


class InvalidLetters(ScanError):
    """Given: no letters of a word rule."""
    def __init__(self, given):
        self.given = given


class InvalidDrops(ScanError):
    """Given: no drops of a word rule."""
    def __init__(self, given):
        self.given = given


class InvalidTerm(ScanError):
    """Given: no term, or no word or beginning of one."""
    def __init__(self, given):
        self.given = given


class InvalidGuard(ScanError):
    """Given: no guard."""
    def __init__(self, given):
        self.given = given


class InvalidAsker(ScanError):
    """Given: no asker."""
    def __init__(self, given):
        self.given = given


class InvalidLabels(ScanError):
    """Given: no labels."""
    def __init__(self, given):
        self.given = given


class InvalidChange(ScanError):
    """Given: no change of a log."""
    def __init__(self, given):
        self.given = given


class InvalidNumber(ScanError):
    """Given: no number of the kind that is asked for."""
    def __init__(self, given):
        self.given = given


class InvalidQuestion(ScanError):
    """Given: no question."""
    def __init__(self, given):
        self.given = given


class InvalidRow(ScanError):
    """Given: no row."""
    def __init__(self, given):
        self.given = given


class InvalidPoints(ScanError):
    """Given: no points of a rank, for heads or for bodies."""
    def __init__(self, given):
        self.given = given


class InvalidRare(ScanError):
    """Given: no factors of a rank."""
    def __init__(self, given):
        self.given = given


class InvalidTies(ScanError):
    """Given: no ties of a rank."""
    def __init__(self, given):
        self.given = given


class InvalidCounted(ScanError):
    """Given: no word for the counted documents of a rank."""
    def __init__(self, given):
        self.given = given


class InvalidStep(ScanError):
    """Given: no step."""
    def __init__(self, given):
        self.given = given


class InvalidHouse(ScanError):
    """Given: no number of a house."""
    def __init__(self, given):
        self.given = given


class InvalidLot(ScanError):
    """Given: no number of a lot."""
    def __init__(self, given):
        self.given = given


class InvalidMark(ScanError):
    """Given: no mark of a cache."""
    def __init__(self, given):
        self.given = given


class InvalidTell(ScanError):
    """Given: no tell."""
    def __init__(self, given):
        self.given = given


class InvalidLine(ScanError):
    """Given: no line of a console."""
    def __init__(self, given):
        self.given = given


class InvalidPlace(ScanError):
    """Given: no place of a page."""
    def __init__(self, given):
        self.given = given


class InvalidWindow(ScanError):
    """Given: no window, or no stretch."""
    def __init__(self, given):
        self.given = given


class InvalidField(ScanError):
    """Given: no field."""
    def __init__(self, given):
        self.given = given


class Passed(ScanError):
    """Given: the count of a page that is passed."""
    def __init__(self, given):
        self.given = given


class NotAWordRule(ScanError):
    """Given: no word rule."""
    def __init__(self, given):
        self.given = given


class NotAPolicy(ScanError):
    """Given: no policy."""
    def __init__(self, given):
        self.given = given


class NotALog(ScanError):
    """Given: no log."""
    def __init__(self, given):
        self.given = given


class NotARank(ScanError):
    """Given: no rank."""
    def __init__(self, given):
        self.given = given


class NotAFleet(ScanError):
    """Given: no fleet."""
    def __init__(self, given):
        self.given = given


class NotADesk(ScanError):
    """Given: no desk."""
    def __init__(self, given):
        self.given = given


class UnknownKey(ScanError):
    """Given: the key of no document that is there."""
    def __init__(self, given):
        self.given = given


class UnknownSearch(ScanError):
    """Given: the number of no kept search."""
    def __init__(self, given):
        self.given = given


class TooMany(ScanError):
    """Given: how many there would be."""
    def __init__(self, given):
        self.given = given


class TooLarge(ScanError):
    """Given: the number that is beyond the limit, or the limit."""
    def __init__(self, given):
        self.given = given


class Lost(ScanError):
    """Given: a house that is lost."""
    def __init__(self, given):
        self.given = given


class Live(ScanError):
    """Given: a house that is live."""
    def __init__(self, given):
        self.given = given


class Present(ScanError):
    """Given: a house that has a copy and should have none."""
    def __init__(self, given):
        self.given = given


class Absent(ScanError):
    """Given: a house that has no copy."""
    def __init__(self, given):
        self.given = given


class InvalidFolds(ScanError):
    """Index: that of the first wrong one of the folds."""
    def __init__(self, index):
        self.index = index


class InvalidEndings(ScanError):
    """Index: that of the first wrong one of the endings."""
    def __init__(self, index):
        self.index = index


class InvalidDull(ScanError):
    """Index: that of the first wrong one of the dull terms."""
    def __init__(self, index):
        self.index = index


class InvalidRights(ScanError):
    """Index: that of the first wrong one of the rights."""
    def __init__(self, index):
        self.index = index


class InvalidChanges(ScanError):
    """Index: that of the first wrong one of the changes."""
    def __init__(self, index):
        self.index = index


class InvalidDocuments(ScanError):
    """Index: that of the first wrong one of the row documents."""
    def __init__(self, index):
        self.index = index


class InvalidSpreads(ScanError):
    """Index: that of the first wrong one of the spreads."""
    def __init__(self, index):
        self.index = index


class InvalidEntries(ScanError):
    """Index: that of the first wrong one of the entries."""
    def __init__(self, index):
        self.index = index


class InvalidParts(ScanError):
    """Index: that of the first wrong one of the parts."""
    def __init__(self, index):
        self.index = index


class InvalidLists(ScanError):
    """Index: that of the first wrong one of the lists."""
    def __init__(self, index):
        self.index = index


class InvalidDepths(ScanError):
    """Index: that of the first wrong one of the depths."""
    def __init__(self, index):
        self.index = index


class InvalidNotes(ScanError):
    """Index: that of the first wrong one of the notes."""
    def __init__(self, index):
        self.index = index


class InvalidTallies(ScanError):
    """Index: that of the first wrong one of the tallies."""
    def __init__(self, index):
        self.index = index


class Disagree(ScanError):
    """Key and stamp: of entries of two parts with unlike things."""
    def __init__(self, key, stamp):
        self.key = key
        self.stamp = stamp


class Clash(ScanError):
    """Number: of a tell that has come with something else."""
    def __init__(self, number):
        self.number = number


class Trace(ScanError):
    """The rank shows a trace of what is not seen."""


class Unserved(ScanError):
    """No count is served."""


class NothingToUndo(ScanError):
    """No change is left that could be taken back."""
