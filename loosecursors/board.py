"""A board: desks by name, which commands change, with marks and a log."""

from loosecursors.desks import Desk
from loosecursors.errors import CursorError, Endless, InvalidCommand, UnknownMark, UnknownName
from loosecursors.tables import check_new_name, is_name_in
from loosecursors.texts import parse_rule

# How many arguments the commands have that may stand in a batch.
ARGUMENTS = {"create": 3, "deposit": 3, "withdraw": 2, "resize": 2, "carry": 2, "enlist": 2, "advance": 2, "finish": 2,
             "discard": 1, "mark": 1, "back": 1}


class Board:
    """A board keeps desks by name, marks of all desks, and a log of its commands."""

    def __init__(self):
        self._desks = {}
        # The dicts within this one and the desks within them are never modified, only copies of them.
        self._marks = {}
        self._log = []

    @property
    def names(self):
        """The ascending list of the names of the desks."""
        return sorted(self._desks)

    @property
    def log(self):
        """The list of two strings for each command: its name, then "done" or "failed"."""
        return list(self._log)

    def create(self, name, text, width):
        """Add a desk with the rule with a text."""
        self._run("create", (name, text, width))

    def deposit(self, name, key, code):
        """Put a key with a hash into the table of a desk."""
        self._run("deposit", (name, key, code))

    def withdraw(self, name, key):
        """Take a key out of the table of a desk."""
        self._run("withdraw", (name, key))

    def resize(self, name, width):
        """Begin to move everything to another table at a desk."""
        self._run("resize", (name, width))

    def carry(self, name, count):
        """Move the keys of as many next buckets at a desk."""
        self._run("carry", (name, count))

    def enlist(self, name, label):
        """Begin a listing at a desk."""
        self._run("enlist", (name, label))

    def advance(self, name, label):
        """List once at a desk, and return the names that are told."""
        return self._run("advance", (name, label))

    def finish(self, name, label):
        """Advance until the listing has ended, and return the list of what the steps return."""
        return self._run("finish", (name, label))

    def discard(self, name):
        """Take a desk away."""
        self._run("discard", (name,))

    def mark(self, label):
        """Record all desks."""
        self._run("mark", (label,))

    def back(self, label):
        """Restore the desks that were recorded."""
        self._run("back", (label,))

    def batch(self, commands):
        """Execute commands in order, all of them or none, and return the list of their results."""
        return self._run("batch", (commands,))

    def shape_of(self, name):
        """Return the shape of the table of a desk."""
        return self._desk(name).shape

    def keys_of(self, name):
        """Return the ascending list of the names of the keys of a desk."""
        return self._desk(name).names

    def told_by(self, name, label):
        """Return the dict from the names that a listing has told to how often."""
        return self._desk(name).told(label)

    def stayed_by(self, name, label):
        """Return the ascending list of the names of the keys that have stayed since a listing began."""
        return self._desk(name).stayed(label)

    def copy(self):
        """Return an independent board with the same desks and marks, and an empty log."""
        other = Board()
        other._desks = _copies(self._desks)
        other._marks = self._marks
        return other

    def _run(self, command, arguments):
        """Execute a command with its entries in the log, and return its result."""
        self._log.append(command)
        try:
            result = self._do(command, arguments)
        except CursorError:
            self._log.append("failed")
            raise
        self._log.append("done")
        return result

    def _do(self, command, arguments):
        if command == "create":
            return self._create(*arguments)
        if command == "finish":
            return self._finish(*arguments)
        if command == "discard":
            return self._discard(*arguments)
        if command == "mark":
            return self._mark(*arguments)
        if command == "back":
            return self._back(*arguments)
        if command == "batch":
            return self._batch(*arguments)
        return self._do_at_desk(command, *arguments)

    def _do_at_desk(self, command, name, *rest):
        desk = self._desk(name)
        if command == "deposit":
            return desk.put(*rest)
        if command == "withdraw":
            return desk.drop(*rest)
        if command == "resize":
            return desk.start(*rest)
        if command == "carry":
            return desk.move(*rest)
        if command == "enlist":
            return desk.enter(*rest)
        return desk.step(*rest)

    def _create(self, name, text, width):
        check_new_name(name, self._desks)
        self._desks[name] = Desk(parse_rule(text), width)

    def _finish(self, name, label):
        desk = self._desk(name).copy()
        steps = [desk.step(label)]
        while not desk.is_over(label):
            # The table does not change meanwhile, so that more calls than cursors would go on in a loop.
            if len(steps) == desk.rule.cursors:
                raise Endless("the listing would not end with the table as it is")
            steps.append(desk.step(label))
        self._desks[name] = desk
        return steps

    def _discard(self, name):
        self._desk(name)
        del self._desks[name]

    def _mark(self, label):
        check_new_name(label, self._marks)
        marks = {other: desks for other, desks in self._marks.items()}
        marks[label] = _copies(self._desks)
        self._marks = marks

    def _back(self, label):
        if not is_name_in(label, self._marks):
            raise UnknownMark("the board has no mark with this label")
        self._desks = _copies(self._marks[label])

    def _batch(self, commands):
        if not isinstance(commands, list):
            raise InvalidCommand("the commands are not a list")
        desks = _copies(self._desks)
        marks = self._marks
        try:
            return [self._do_item(item) for item in commands]
        except CursorError:
            self._desks = desks
            self._marks = marks
            raise

    def _do_item(self, item):
        if not _is_command(item):
            raise InvalidCommand("an item is not a tuple of the name of a command and its arguments")
        return self._run(item[0], item[1:])

    def _desk(self, name):
        if not is_name_in(name, self._desks):
            raise UnknownName("the board has no desk with this name")
        return self._desks[name]


def _copies(desks):
    return {name: desk.copy() for name, desk in desks.items()}


def _is_command(item):
    if not isinstance(item, tuple) or not item or not isinstance(item[0], str):
        return False
    return item[0] in ARGUMENTS and len(item) == ARGUMENTS[item[0]] + 1
