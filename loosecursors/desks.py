"""Desks: a table that is listed by a rule, call by call, while it changes between the calls."""

from loosecursors.bits import check_width
from loosecursors.errors import NothingToUndo, Over, UnknownLabel, UnknownName, UnknownShape
from loosecursors.rules import Rule
from loosecursors.tables import Table, check_new_name, is_name_in


class Listing:
    """What is known of a listing so far; it is not modified, but another one is put in its place."""

    def __init__(self, cursor, counts, present, tables):
        # The cursor of the next call, or None if the listing has ended.
        self.cursor = cursor
        # From the names that were told to how often.
        self.counts = counts
        # The names of the keys that have stayed.
        self.present = present
        # The tables as they were at the calls.
        self.tables = tables

    def behind_call(self, rule, table):
        """Return the names that the next call tells, and the listing behind this call."""
        found, later = rule.call(table.shape, self.cursor)
        names = table.names_at(found)
        counts = {name: times for name, times in self.counts.items()}
        for name in names:
            counts[name] = counts.get(name, 0) + 1
        return (names, Listing(later, counts, self.present, self.tables + [table]))

    def without(self, name):
        """Return the listing with a key that has not stayed."""
        present = [other for other in self.present if other != name]
        return Listing(self.cursor, self.counts, present, self.tables)


class Desk:
    """A desk has a rule, a table, and listings by label; each call that changes something can be undone."""

    def __init__(self, rule, width):
        check_width(width)
        if not isinstance(rule, Rule) or (width,) not in rule.shapes:
            raise UnknownShape("the rule does not have the shape of the table")
        self._rule = rule.with_shapes(rule.shapes)
        # Neither this table nor this dict is modified, as listings, earlier states and copies share them.
        self._table = Table(width)
        self._listings = {}
        self._earlier = []

    @property
    def rule(self):
        """The rule."""
        return self._rule

    @property
    def shape(self):
        """The shape of the table."""
        return self._table.shape

    @property
    def names(self):
        """The ascending list of the names of the keys of the table."""
        return self._table.names

    @property
    def moved(self):
        """The number of buckets of the table that were moved since it began to move."""
        return self._table.moved

    def put(self, name, code):
        """Put a key with a name and a hash into the table."""
        table = self._table.copy()
        table.put(name, code)
        self._go_on(table, self._listings)

    def drop(self, name):
        """Take a key out of the table."""
        table = self._table.copy()
        table.drop(name)
        self._go_on(table, {label: listing.without(name) for label, listing in self._listings.items()})

    def start(self, width):
        """Begin to move everything to a table of another width."""
        table = self._table.copy()
        table.start(width)
        shapes = self._rule.shapes
        if table.shape not in shapes or (width,) not in shapes:
            raise UnknownShape("the rule does not have the shapes with the new table")
        self._go_on(table, self._listings)

    def move(self, count):
        """Move all keys of as many next buckets of table 0 to table 1."""
        table = self._table.copy()
        table.move(count)
        self._go_on(table, self._listings)

    def enter(self, label):
        """Begin a listing."""
        check_new_name(label, self._listings)
        self._go_on(self._table, self._listings_with(label, Listing(0, {}, self._table.names, [])))

    def step(self, label):
        """List once, and return the ascending list of the names of the keys that are told."""
        listing = self._listing(label)
        if listing.cursor is None:
            raise Over("the listing has ended")
        names, later = listing.behind_call(self._rule, self._table)
        self._go_on(self._table, self._listings_with(label, later))
        return names

    def undo(self):
        """Restore the state before the last call that changed something."""
        if not self._earlier:
            raise NothingToUndo("there is no call that could be undone")
        self._table, self._listings = self._earlier.pop()

    def told(self, label):
        """Return the dict from the names of all keys that a listing has told so far to how often."""
        counts = self._listing(label).counts
        return {name: counts[name] for name in sorted(counts)}

    def stayed(self, label):
        """Return the ascending list of the names of the keys that have stayed since a listing began."""
        return list(self._listing(label).present)

    def run_of(self, label, name):
        """Return the list of the tuples (shape, moved) of a key that has stayed, one for each call of a listing."""
        listing = self._listing(label)
        if name not in listing.present:
            raise UnknownName("no key with this name has stayed since the listing began")
        return [(table.shape, table.is_moved(name)) for table in listing.tables]

    def is_over(self, label):
        """Tell whether a listing has ended."""
        return self._listing(label).cursor is None

    def copy(self):
        """Return an independent desk in the same state, with the same earlier states."""
        # The rule has the shape of table 0 alone, as the table had it before it began to move.
        other = Desk(self._rule, self.shape[0])
        other._table = self._table
        other._listings = self._listings
        other._earlier = list(self._earlier)
        return other

    def _listing(self, label):
        if not is_name_in(label, self._listings):
            raise UnknownLabel("the desk has no listing with this label")
        return self._listings[label]

    def _listings_with(self, label, listing):
        listings = {other: known for other, known in self._listings.items()}
        listings[label] = listing
        return listings

    def _go_on(self, table, listings):
        self._earlier.append((self._table, self._listings))
        self._table = table
        self._listings = listings

    def __len__(self):
        return len(self._earlier)
