"""The errors of the program, in the order in which they are raised if several are due."""


class StoreError(ValueError):
    """Stands above all errors of the program."""

    def __init__(self):
        self.word = self.__class__.__name__


class TextError(StoreError):
    """Stands above the errors of texts that are read."""


class RowError(StoreError):
    """Stands above the errors of rows that do not fit their table."""


class BadText(TextError):
    """A text is no written form; its first `at` characters could begin one."""

    def __init__(self, at):
        super().__init__()
        self.at = at


class BadSyntax(TextError):
    """A text is not one of the grammar; the place is that of the first token that fits nowhere."""

    def __init__(self, line, column):
        super().__init__()
        self.line = line
        self.column = column


class BadSchema(StoreError):
    """The definition at the index `table` breaks this rule."""

    def __init__(self, table, rule):
        super().__init__()
        self.table = table
        self.rule = rule


class Closed(StoreError):
    """What is asked is not under way."""


class Busy(StoreError):
    """Something is still under way."""


class NameTaken(StoreError):
    """There is already a view with this name."""

    def __init__(self, name):
        super().__init__()
        self.name = name


class NoView(StoreError):
    """There is no view with this name."""

    def __init__(self, name):
        super().__init__()
        self.name = name


class NoCopy(StoreError):
    """There is no copy with this name."""

    def __init__(self, name):
        super().__init__()
        self.name = name


class Forked(StoreError):
    """Two different changes have this name and this number."""

    def __init__(self, name, number):
        super().__init__()
        self.name = name
        self.number = number


class Gap(StoreError):
    """The change before this one is missing."""

    def __init__(self, name, number):
        super().__init__()
        self.name = name
        self.number = number


class Swept(StoreError):
    """The book after this many records has been forgotten."""

    def __init__(self, count):
        super().__init__()
        self.count = count


class NoTable(StoreError):
    """There is no table with this name."""

    def __init__(self, table):
        super().__init__()
        self.table = table


class NoColumn(StoreError):
    """There is no column with this label."""

    def __init__(self, label):
        super().__init__()
        self.label = label


class Repeated(StoreError):
    """A label stands twice where it may stand once."""

    def __init__(self, label):
        super().__init__()
        self.label = label


class Unlike(StoreError):
    """Two trees have unlike columns."""

    def __init__(self, left, right):
        super().__init__()
        self.left = left
        self.right = right


class NotATree(StoreError):
    """Pages are not a right page tree."""


class NoPlace(StoreError):
    """A tree has no such place."""

    def __init__(self, place):
        super().__init__()
        self.place = place


class NoStep(StoreError):
    """A step can not be taken there."""

    def __init__(self, rule, place):
        super().__init__()
        self.rule = rule
        self.place = place


class TooMany(StoreError):
    """A block has this many leaves, which are too many."""

    def __init__(self, count):
        super().__init__()
        self.count = count


class BadWidth(RowError):
    """A row has more or fewer values than its table has columns."""

    def __init__(self, table, row):
        super().__init__()
        self.table = table
        self.row = row


class BadKind(RowError):
    """A value is not allowed by the kind of its column."""

    def __init__(self, table, column):
        super().__init__()
        self.table = table
        self.column = column


class CheckFailed(RowError):
    """The check with this index does not hold for a row."""

    def __init__(self, table, check):
        super().__init__()
        self.table = table
        self.check = check


class Mismatch(StoreError):
    """The row with this key is not the one that an edit names."""

    def __init__(self, table, key):
        super().__init__()
        self.table = table
        self.key = key


class KeyTaken(StoreError):
    """Two rows of a table have the same key."""

    def __init__(self, table, key):
        super().__init__()
        self.table = table
        self.key = key


class Dangling(StoreError):
    """The row with this key has a broken reference."""

    def __init__(self, table, reference, key):
        super().__init__()
        self.table = table
        self.reference = reference
        self.key = key


class NotSerial(StoreError):
    """A history with a ring has no right order."""

    def __init__(self, ring):
        super().__init__()
        self.ring = ring


class Stopped(StoreError):
    """The machine has stopped."""
