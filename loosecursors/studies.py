"""Studies: a rule and a road that are edited, and the answers about missed hashes that stay known."""

from loosecursors.bits import check_hash
from loosecursors.errors import NothingToUndo
from loosecursors.missed import concerns, missed_run
from loosecursors.runs import check_match


class Study:
    """A study has a rule, a road and known answers; each edit of the rule or the road can be undone."""

    def __init__(self, rule, road):
        check_match(rule, road)
        self._rule = rule.with_shapes(rule.shapes)
        self._road = road.without([])
        # From hashes to tuples (run, concerns); this dict is never modified, as earlier states and copies share it.
        self._known = {}
        self._searches = 0
        self._earlier = []

    @property
    def rule(self):
        """The rule."""
        return self._rule

    @property
    def road(self):
        """The road."""
        return self._road

    @property
    def known(self):
        """The ascending list of the hashes whose answers are known."""
        return sorted(self._known)

    @property
    def searches(self):
        """The number of calls of missed whose answer was not known."""
        return self._searches

    def missed(self, code):
        """Return the first in ascending order of the shortest runs that miss a hash, or None."""
        check_hash(code)
        if code not in self._known:
            found = (missed_run(self._rule, self._road, code), concerns(self._rule, self._road, code))
            known = {other: answer for other, answer in self._known.items()}
            known[code] = found
            self._known = known
            self._searches += 1
        run = self._known[code][0]
        return None if run is None else list(run)

    def set_call(self, shape, cursor, call):
        """Put another call into the rule."""
        rule = self._rule.with_call(shape, cursor, call)
        known = {code: found for code, found in self._known.items() if (shape, cursor) not in found[1]}
        self._edit(rule, self._road, known)

    def allow(self, change):
        """Add a change to the road."""
        road = self._road.with_change(change)
        check_match(self._rule, road)
        self._edit(self._rule, road, self._known_without(change[0]))

    def forbid(self, change):
        """Take a change away from the road."""
        road = self._road.without([change])
        self._edit(self._rule, road, self._known_without(change[0]))

    def undo(self):
        """Restore the rule, the road and the known answers as they were before the last edit."""
        if not self._earlier:
            raise NothingToUndo("there is no edit that could be undone")
        self._rule, self._road, self._known = self._earlier.pop()

    def copy(self):
        """Return an independent study in the same state, with the same earlier states and searches."""
        other = Study(self._rule, self._road)
        other._known = self._known
        other._searches = self._searches
        other._earlier = list(self._earlier)
        return other

    def _known_without(self, shape):
        """Return the known answers that do not concern a shape."""
        # What stays known has the same concerns as before, as no way to them leads through what is edited.
        return {code: found for code, found in self._known.items() if shape not in [state[0] for state in found[1]]}

    def _edit(self, rule, road, known):
        self._earlier.append((self._rule, self._road, self._known))
        self._rule = rule
        self._road = road
        self._known = known

    def __len__(self):
        return len(self._earlier)
