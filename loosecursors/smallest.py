"""The smallest rule that does the same as a rule, and the cursors that are not told apart."""

from loosecursors.bits import is_between
from loosecursors.errors import UnknownCursor
from loosecursors.rules import Rule
from loosecursors.same import first_row


def smallest(rule):
    """Return the rule with the fewest cursors that does the same, with its cursors in the order of their meeting."""
    calls = rule.calls
    firsts = _first_alike(rule)
    met = [0]
    index = 0
    while index < len(met):
        for shape in calls:
            later = calls[shape][met[index]][1]
            if later is not None and firsts[later] not in met:
                met.append(firsts[later])
        index += 1
    numbers = {cursor: number for number, cursor in enumerate(met)}
    result = {}
    for shape, row in calls.items():
        kept = [row[cursor] for cursor in met]
        result[shape] = [(found, None if later is None else numbers[firsts[later]]) for found, later in kept]
    return Rule(len(met), result)


def told_apart(rule, cursor, other):
    """Return the first of the shortest rows of shapes that tell apart rules that begin with two cursors, or None."""
    if not is_between(cursor, 0, rule.cursors - 1) or not is_between(other, 0, rule.cursors - 1):
        raise UnknownCursor("a cursor is none of the rule")
    return first_row(rule, rule, (cursor, other))


def groups(rule):
    """Return the ascending list of the lists of the cursors that are not told apart."""
    found = {}
    for cursor, first in enumerate(_first_alike(rule)):
        found.setdefault(first, []).append(cursor)
    return sorted(list(found.values()))


def _first_alike(rule):
    """Return the list of the least cursor, for each cursor, that is not told apart from it."""
    calls = rule.calls
    firsts = [0] * rule.cursors
    finer = _refined(calls, firsts)
    while finer != firsts:
        firsts = finer
        finer = _refined(calls, firsts)
    return firsts


def _refined(calls, firsts):
    """Return the least cursors with calls that list the same and go on with cursors of the same groups."""
    signs = []
    for cursor in range(len(firsts)):
        row = [calls[shape][cursor] for shape in calls]
        signs.append([(found, None if later is None else firsts[later]) for found, later in row])
    return [signs.index(sign) for sign in signs]
