"""Points 79 to 85: copies that work apart, receive changes and meet."""

import itertools
import random
import unittest

from storedesk.books import is_book
from storedesk.copies import Copy, replayed
from storedesk.deltas import apply_delta
from storedesk.errors import (
    BadKind, BadWidth, CheckFailed, Dangling, Forked, Gap, Mismatch, NoCopy, NoTable, StoreError,
)
from tests.plainly import TOWN, TOWN_BOOK, PlainCopy, outcome, town_delta
from tests.samples import BOOK, SCHEMA
from tests.support import StoreCase, spoil

KV = (("t", (("k", "any"), ("x", "any")), ("k",), (), ()),)
BASE = (("t", ((1, "a"), (2, "b"))),)
NAMES = ("ann", "bob", "cy")


def put(*row):
    return (("t", row[:1], None, row),)


def taken(*row):
    return (("t", row[:1], row, None),)


def turned(before, after):
    return (("t", before[:1], before, after),)


def copies(schema=KV, base=BASE, names=NAMES):
    return [Copy(schema, base, name, names) for name in names]


def shown_by(copy):
    """All that a copy shows."""
    return (copy.name, copy.book, copy.vector, copy.changes, copy.clashes, copy.heard, copy.settled)


class CopyCase(StoreCase):
    def refused(self, error, attributes, copy, changes):
        before = shown_by(copy)
        for given in (list(changes), tuple(changes)):
            self.assertFails(error, attributes, copy.receive, given)
            self.assertFails(error, attributes, copy.receive, changes=given)
        self.assertSame(shown_by(copy), before)


class TestWriting(CopyCase):
    def test_a_new_copy(self):
        for copy in (Copy(KV, BASE, "bob", ("cy", "ann", "bob")), Copy(names=NAMES, name="bob", book=BASE, schema=KV)):
            self.assertSame(shown_by(copy), ("bob", BASE, (), (), (), (("ann", 0), ("bob", 0), ("cy", 0)), 0))
            self.assertSame(copy.changes_after(()), [])

    def test_clocks_and_numbers(self):
        ann, bob, _ = copies()
        self.assertSame(ann.write(put(3, 0)), (1, "ann"))
        self.assertSame(ann.write(delta=taken(3, 0)), (2, "ann"))
        self.assertSame(bob.write(put(4, 0)), (1, "bob"))
        self.assertSame(ann.changes, (("ann", 1, 1, put(3, 0)), ("ann", 2, 2, taken(3, 0))))
        self.assertSame(ann.vector, (("ann", 2),))
        self.assertSame(bob.receive(ann.changes), 2)
        self.assertSame(bob.write(put(5, 0)), (3, "bob"))
        self.assertSame(bob.write(put(6, 0)), (4, "bob"))
        self.assertSame([change[:3] for change in bob.changes],
                        [("ann", 1, 1), ("bob", 1, 1), ("ann", 2, 2), ("bob", 2, 3), ("bob", 3, 4)])
        self.assertSame(bob.vector, (("ann", 2), ("bob", 3)))
        self.assertSame(bob.book, (("t", ((1, "a"), (2, "b"), (4, 0), (5, 0), (6, 0))),))

    def test_an_empty_delta(self):
        ann = copies()[0]
        before = shown_by(ann)
        self.assertIsNone(ann.write(()))
        self.assertIsNone(ann.write(delta=()))
        self.assertSame(shown_by(ann), before)
        ann.write(put(3, 0))
        self.assertIsNone(ann.write(()))
        self.assertSame(ann.write(put(4, 0)), (2, "ann"))

    def test_errors(self):
        copy = Copy(SCHEMA, BOOK, "ann", ("ann",))
        copy.write((("zoo", ("c",), None, ("c", None)),))
        before = shown_by(copy)
        right = ("ants", (9,), None, (9, "c", None, 5))
        for error, attributes, delta in (
            (NoTable, {"table": "q"}, (("ants", (8,), None, (8,)), ("q", (1,), None, (1,)))),
            (BadWidth, {"row": ("d",)}, (right, ("zoo", ("d",), None, ("d",)))),
            (BadKind, {"column": "city"}, (right, ("zoo", ("d",), None, ("d", True)))),
            (CheckFailed, {"check": 0}, (("ants", (9,), None, (9, None, None, 0)),)),
            (Mismatch, {"table": "zoo", "key": ("c",)}, (right, ("zoo", ("c",), None, ("c", "x")))),
            (Dangling, {"table": "ants", "reference": 0, "key": (2,)}, (right, ("zoo", ("b",), ("b", "Rome"), None))),
        ):
            self.assertFails(error, attributes, copy.write, delta)
            self.assertFails(error, attributes, copy.write, delta=delta)
            self.assertSame(shown_by(copy), before)
        self.assertSame(copy.write((right,)), (2, "ann"))

    def test_changes_after(self):
        ann, bob, cy = copies()
        for at in range(3, 6):
            ann.write(put(at, "ann"))
            bob.write(put(at + 10, "bob"))
        ann.meet(bob)
        known = list(ann.changes)
        self.assertSame([change[:3] for change in known], [
            ("ann", 1, 1), ("bob", 1, 1), ("ann", 2, 2), ("bob", 2, 2), ("ann", 3, 3), ("bob", 3, 3)])
        self.assertSame(ann.changes_after(()), known)
        self.assertSame(ann.changes_after(vector=cy.vector), known)
        self.assertSame(ann.changes_after((("ann", 2), ("bob", 1))), [known[3], known[4], known[5]])
        self.assertSame(ann.changes_after((("bob", 3),)), [known[0], known[2], known[4]])
        self.assertSame(ann.changes_after((("ann", 9), ("bob", 9), ("cy", 4))), [])
        self.assertSame(ann.changes_after((("cy", 4),)), known)
        self.assertSame(ann.changes_after(ann.vector), [])
        spoil(ann.changes_after(()))
        self.assertSame(ann.changes_after(()), known)
        cy.receive(known)
        cy.write(put(9, "cy"))
        self.assertSame(cy.changes[-1], ("cy", 1, 4, put(9, "cy")))
        self.assertSame(cy.changes_after((("ann", 3), ("bob", 3), ("cy", 1))), [])
        self.assertSame(cy.changes_after((("ann", 3), ("bob", 2))), [known[5], cy.changes[-1]])


class TestReplaying(CopyCase):
    def check(self, schema, book, changes, wanted, clashes):
        self.assertCall(replayed, {"schema": schema, "book": book, "changes": tuple(changes)}, (wanted, clashes))
        for order in list(itertools.permutations(changes))[:24]:
            self.assertCall(replayed, {"schema": schema, "book": book, "changes": list(order)}, (wanted, clashes))

    def test_order(self):
        self.check(KV, BASE, [], BASE, ())
        # By clock, and by name where the clocks are equal.
        self.check(KV, BASE, [("bob", 1, 1, turned((1, "a"), (1, "bob"))), ("ann", 1, 1, turned((1, "a"), (1, "ann")))],
                   (("t", ((1, "ann"), (2, "b"))),), (("bob", 1, "Mismatch", "t", (1,)),))
        self.check(KV, BASE, [("ann", 1, 2, turned((1, "a"), (1, "ann"))), ("bob", 1, 1, turned((1, "a"), (1, "bob")))],
                   (("t", ((1, "bob"), (2, "b"))),), (("ann", 1, "Mismatch", "t", (1,)),))
        self.check(KV, BASE, [("cy", 1, 1, put(9, 0)), ("bob", 1, 10, put(9, 1)), ("ann", 1, 9, taken(9, 0))],
                   (("t", ((1, "a"), (2, "b"), (9, 1))),), ())

    def test_a_change_is_left_out_as_a_whole(self):
        delta = put(3, 3) + put(4, 4)
        self.check(KV, BASE, [("ann", 1, 1, put(4, 0)), ("bob", 1, 1, delta), ("cy", 1, 1, put(3, 1))],
                   (("t", ((1, "a"), (2, "b"), (3, 1), (4, 0))),), (("bob", 1, "Mismatch", "t", (4,)),))

    def test_true_is_not_one(self):
        self.check(KV, BASE, [("ann", 1, 1, put(True, 1)), ("bob", 1, 2, turned((True, True), (True, 2)))],
                   (("t", ((True, 1), (1, "a"), (2, "b"))),), (("bob", 1, "Mismatch", "t", (True,)),))

    def test_dangling(self):
        gone = (("zoo", ("b",), ("b", "Rome"), None), )
        used = (("ants", (9,), None, (9, "b", None, 5)),)
        freed = (("ants", (2,), (2, "b", 1, 6), (2, None, 1, 6)),)
        # The row that bears the reference need not be one that the change has edited.
        self.check(SCHEMA, BOOK, [("ann", 1, 1, gone)], BOOK, (("ann", 1, "Dangling", "ants", (2,)),))
        later = apply_delta(SCHEMA, BOOK, freed + used)
        self.check(SCHEMA, BOOK, [("ann", 1, 1, freed), ("ann", 2, 2, gone), ("bob", 1, 1, used)], later,
                   (("ann", 2, "Dangling", "ants", (9,)),))
        later = apply_delta(SCHEMA, apply_delta(SCHEMA, BOOK, freed), gone)
        self.check(SCHEMA, BOOK, [("ann", 1, 1, freed), ("ann", 2, 2, gone), ("bob", 1, 3, used)], later,
                   (("bob", 1, "Dangling", "ants", (9,)),))


class TestReceiving(CopyCase):
    def made(self):
        """Three changes of ann and two of bob, who knew the first one of ann."""
        ann, bob, cy = copies()
        ann.write(put(3, "ann"))
        bob.meet(ann)
        ann.write(put(4, "ann"))
        ann.write(taken(3, "ann"))
        bob.write(turned((3, "ann"), (3, "bob")))
        bob.write(put(5, "bob"))
        changes = [*ann.changes, *bob.changes_after(ann.vector)]
        return cy, changes

    def test_every_order(self):
        _, changes = self.made()
        wanted = None
        for order in itertools.permutations(changes):
            cy = copies()[2]
            self.assertSame(cy.receive(order), 5)
            self.assertSame(cy.receive(changes=list(order)), 0)
            wanted = wanted or shown_by(cy)
            self.assertSame(shown_by(cy), wanted)
        self.assertSame(cy.changes, tuple(sorted(changes, key=lambda change: (change[2], change[0]))))
        self.assertSame((cy.book, cy.clashes), replayed(KV, BASE, changes))
        self.assertSame(cy.clashes, (("ann", 3, "Mismatch", "t", (3,)),))
        self.assertSame(cy.book, (("t", ((1, "a"), (2, "b"), (3, "bob"), (4, "ann"), (5, "bob"))),))
        self.assertSame(cy.vector, (("ann", 3), ("bob", 2)))

    def test_one_after_another(self):
        """As long as none is missing, whatever the other copy does."""
        _, changes = self.made()
        draw = random.Random(83)
        for _ in range(20):
            cy, known = copies()[2], []
            rest = {name: [change for change in changes if change[0] == name] for name in NAMES}
            while any(rest.values()):
                name = draw.choice([one for one in NAMES if rest[one]])
                known.append(rest[name].pop(0))
                self.assertSame(cy.receive((known[-1],)), 1)
                self.assertSame((cy.book, cy.clashes), replayed(KV, BASE, known))
                self.assertSame(cy.changes, tuple(sorted(known, key=lambda change: (change[2], change[0]))))

    def test_known_ones_and_doubles(self):
        cy, changes = self.made()
        self.assertSame(cy.receive([]), 0)
        self.assertSame(cy.receive([changes[0], changes[0]]), 1)
        self.assertSame(cy.receive([changes[0], changes[1], changes[0], changes[1], changes[3]]), 2)
        self.assertSame(cy.receive(changes), 2)
        self.assertSame(cy.receive(changes), 0)
        self.assertSame(len(cy.changes), 5)

    def test_what_is_passed_in_is_not_kept(self):
        cy, changes = self.made()
        given = list(changes)
        cy.receive(given)
        before = shown_by(cy)
        given.reverse()
        given.clear()
        self.assertSame(shown_by(cy), before)
        self.assertSame(len(before[3]), 5)

    def test_clashes_come_and_go(self):
        ann, bob, cy = copies()
        ann.write(turned((1, "a"), (1, "ann")))
        bob.write(turned((1, "a"), (1, "bob")))
        bob.write(turned((1, "bob"), (1, "a")))
        cy.receive(bob.changes)
        self.assertSame((cy.clashes, cy.book), ((), BASE))
        cy.write(turned((1, "a"), (1, "cy")))
        self.assertSame(cy.receive(ann.changes), 1)
        # The change of ann stands first, so the others no longer fit.
        self.assertSame(cy.clashes, (("bob", 1, "Mismatch", "t", (1,)), ("bob", 2, "Mismatch", "t", (1,)),
                                     ("cy", 1, "Mismatch", "t", (1,))))
        self.assertSame(cy.book, (("t", ((1, "ann"), (2, "b"))),))

    def test_a_clash_that_goes(self):
        ann, bob, cy = copies()
        bob.write(put(3, 0))
        ann.write(put(3, 0))
        ann.write(taken(3, 0))
        cy.receive(bob.changes)
        cy.receive(ann.changes[:1])
        self.assertSame(cy.clashes, (("bob", 1, "Mismatch", "t", (3,)),))
        bob.write(taken(3, 0))
        bob.write(put(3, 1))
        cy.receive(bob.changes)
        self.assertSame(cy.clashes, (("bob", 1, "Mismatch", "t", (3,)),))
        # ann 1 and 2 take what bob 2 took; now bob 2 is the clash beside bob 1.
        cy.receive(ann.changes)
        self.assertSame(cy.clashes, (("bob", 1, "Mismatch", "t", (3,)), ("bob", 2, "Mismatch", "t", (3,))))
        self.assertSame(cy.book, (("t", ((1, "a"), (2, "b"), (3, 1))),))
        early = ("ann", 1, 1, put(7, 0))
        late = ("bob", 1, 2, taken(7, 0))
        other = copies()[2]
        other.receive((late,))
        self.assertSame(other.clashes, (("bob", 1, "Mismatch", "t", (7,)),))
        other.receive((early,))
        self.assertSame((other.clashes, other.book), ((), BASE))

    def test_no_copy(self):
        cy, changes = self.made()
        for name in ("dan", "", "Ann", "ann "):
            other = (name, 1, 1, put(8, 8))
            self.refused(NoCopy, {"name": name}, cy, [changes[0], other, ("eve", 7, 9, ())])

    def test_forked(self):
        cy, changes = self.made()
        cy.receive(changes[:2])
        first = changes[0]
        for other in (("ann", 1, 2, first[3]), ("ann", 1, 1, put(3, "other")), ("ann", 1, 1, put(True, "ann"))):
            self.refused(Forked, {"name": "ann", "number": 1}, cy, [changes[2], other])
            self.refused(Forked, {"name": "ann", "number": 1}, cy, [other, first, ("bob", 1, 5, put(9, 9)), changes[3]])
        new = ("bob", 2, 9, put(1, 1))
        # Within the call, against the one that stands earlier.
        self.refused(Forked, {"name": "bob", "number": 2}, cy, [changes[3], changes[4], first, new])
        self.refused(Forked, {"name": "bob", "number": 2}, cy, [new, changes[3], changes[4]])
        self.refused(Forked, {"name": "ann", "number": 3}, cy,
                     [changes[2], ("ann", 3, 3, put(True, 1)), new, changes[4]])
        own = copies()[2]
        own.write(put(8, 8))
        self.refused(Forked, {"name": "cy", "number": 1}, own, [("cy", 1, 1, put(8, True))])
        self.assertSame(own.receive([("cy", 1, 1, put(8, 8))]), 0)

    def test_forked_by_true_for_one(self):
        cy = copies()[2]
        change, other = ("ann", 1, 1, put(7, True)), ("ann", 1, 1, put(7, 1))
        self.refused(Forked, {"name": "ann", "number": 1}, cy, [change, other])
        cy.receive([change])
        self.refused(Forked, {"name": "ann", "number": 1}, cy, [other])
        self.assertSame(cy.receive([("ann", 1, 1, put(7, True))]), 0)

    def test_gap(self):
        cy, changes = self.made()
        self.refused(Gap, {"name": "ann", "number": 2}, cy, [changes[1]])
        self.refused(Gap, {"name": "ann", "number": 3}, cy, [changes[2], changes[0], changes[4]])
        self.refused(Gap, {"name": "bob", "number": 2}, cy, [changes[0], changes[4], changes[2]])
        self.refused(Gap, {"name": "ann", "number": 2}, cy, [changes[2], changes[1]])
        self.assertSame(cy.receive([changes[1], changes[0]]), 2)
        self.assertSame(cy.receive([changes[2]]), 1)
        self.refused(Gap, {"name": "bob", "number": 2}, cy, [changes[4], changes[0]])

    def test_several_at_once(self):
        cy, changes = self.made()
        cy.receive(changes[:1])
        gap = ("bob", 5, 9, put(9, 9))
        fork = ("ann", 1, 1, put(9, 9))
        stranger = ("dan", 1, 1, put(9, 9))
        for order in itertools.permutations((gap, fork, stranger)):
            self.refused(NoCopy, {"name": "dan"}, cy, order)
        for order in itertools.permutations((gap, fork, changes[0])):
            self.refused(Forked, {"name": "ann", "number": 1}, cy, order)
        self.refused(Gap, {"name": "bob", "number": 5}, cy, (changes[0], gap, ("bob", 3, 3, put(8, 8))))
        self.refused(NoCopy, {"name": "dan"}, cy, (("cy", 1, 1, put(1, 1)), ("dan", 1, 1, ())))


class TestMeeting(CopyCase):
    def test_numbers(self):
        ann, bob, cy = copies()
        self.assertSame(ann.meet(bob), (0, 0))
        ann.write(put(3, 0))
        ann.write(put(4, 0))
        bob.write(put(5, 0))
        self.assertSame(ann.meet(bob), (1, 2))
        self.assertSame(ann.meet(bob), (0, 0))
        self.assertSame(cy.meet(other=bob), (3, 0))
        self.assertSame(bob.meet(cy), (0, 0))
        self.assertSame(bob.meet(ann), (0, 0))
        for one in (ann, bob, cy):
            self.assertSame((one.changes, one.vector, one.book), (ann.changes, (("ann", 2), ("bob", 1)), ann.book))

    def test_with_itself(self):
        for copy in copies():
            copy.write(put(3, copy.name))
            before = shown_by(copy)
            self.assertSame(copy.meet(copy), (0, 0))
            self.assertSame(shown_by(copy), before)

    def test_heard(self):
        ann, bob, cy = copies()
        ann.write(put(3, 0))
        ann.write(put(4, 0))
        self.assertSame(ann.heard, (("ann", 2), ("bob", 0), ("cy", 0)))
        self.assertSame(ann.settled, 0)
        ann.meet(bob)
        self.assertSame(ann.heard, (("ann", 2), ("bob", 2), ("cy", 0)))
        self.assertSame(bob.heard, (("ann", 2), ("bob", 2), ("cy", 0)))
        cy.write(put(9, 0))
        # Receiving tells only the clocks of the changes, a meeting also what was heard.
        other = copies()[2]
        other.receive(bob.changes)
        self.assertSame(other.heard, (("ann", 2), ("bob", 0), ("cy", 2)))
        self.assertSame(bob.meet(cy), (1, 2))
        self.assertSame(cy.heard, (("ann", 2), ("bob", 2), ("cy", 2)))
        self.assertSame(bob.heard, (("ann", 2), ("bob", 2), ("cy", 2)))
        self.assertSame((ann.settled, bob.settled, cy.settled), (0, 3, 3))
        self.assertSame(ann.receive(cy.changes), 1)
        self.assertSame(ann.heard, (("ann", 2), ("bob", 2), ("cy", 1)))
        self.assertSame(ann.settled, 2)
        bob.write(put(5, 0))
        self.assertSame(bob.heard, (("ann", 2), ("bob", 3), ("cy", 2)))
        self.assertSame(bob.settled, 3)
        ann.meet(bob)
        self.assertSame(ann.heard, (("ann", 3), ("bob", 3), ("cy", 2)))
        self.assertSame(bob.heard, (("ann", 3), ("bob", 3), ("cy", 2)))

    def test_older_changes_do_not_lower_what_was_heard(self):
        ann, bob, cy = copies()
        ann.write(put(3, 0))
        ann.write(put(4, 0))
        cy.receive(ann.changes)
        bob.receive(ann.changes[:1])
        self.assertSame(bob.heard, (("ann", 1), ("bob", 1), ("cy", 0)))
        cy.meet(bob)
        self.assertSame(bob.heard, (("ann", 2), ("bob", 2), ("cy", 2)))
        bob.receive(ann.changes[:1])
        self.assertSame(bob.heard, (("ann", 2), ("bob", 2), ("cy", 2)))

    def test_settled_clashes(self):
        ann, bob = copies(names=("ann", "bob"))
        ann.write(put(3, "ann"))
        bob.write(put(3, "bob"))
        ann.meet(bob)
        self.assertSame(ann.clashes, (("bob", 1, "Mismatch", "t", (3,)),))
        self.assertSame((ann.settled, bob.settled), (2, 2))

    def test_one_copy_alone(self):
        ann = Copy(KV, BASE, "ann", ("ann",))
        for at in range(3, 6):
            ann.write(put(at, 0))
            self.assertSame((ann.heard, ann.settled), ((("ann", at - 2),), at - 2))


class TestRandomly(CopyCase):
    def test_against_a_plain_reading(self):
        draw = random.Random(80)
        kinds = {}
        for _ in range(40):
            names = draw.choice((("ann", "bob"), ("cy", "ann", "bob"), ("e", "d", "c", "b", "a")))
            found = copies(TOWN, TOWN_BOOK, names)
            plain = [PlainCopy(name, names) for name in names]
            written = 0
            for _ in range(40):
                one, other = draw.randrange(len(names)), draw.randrange(len(names))
                way = draw.random()
                if way < 0.6 and written < 24:
                    delta = town_delta(draw, found[one].book)
                    wanted = outcome(apply_delta, TOWN, found[one].book, delta)
                    if wanted[0] == "raised":
                        self.assertSame(outcome(found[one].write, delta), wanted)
                    elif delta:
                        self.assertSame(found[one].write(delta)[1], names[one])
                        plain[one].write(delta)
                        written += 1
                elif way < 0.8:
                    changes = list(found[other].changes)
                    draw.shuffle(changes)
                    self.assertSame(found[one].receive(changes), plain[one].receive(changes))
                elif one != other:
                    self.assertSame(found[one].meet(found[other]), plain[one].meet(plain[other]))
                    self.assertSame(shown_by(found[one])[1:5], shown_by(found[other])[1:5])
                for copy, reading in zip(found, plain):
                    self.assertSame(shown_by(copy), reading.shown(TOWN, TOWN_BOOK))
                    self.assertTrue(is_book(TOWN, copy.book))
                    for clash in copy.clashes:
                        kinds[clash[2]] = kinds.get(clash[2], 0) + 1
            self.all_meet(draw, found)
        self.assertGreater(min(kinds["Mismatch"], kinds["Dangling"]), 20)

    def all_meet(self, draw, found):
        """In whatever order; then all have the same book, the same clashes, and all of it is settled."""
        for _ in range(len(found)):
            for one in found:
                one.meet(draw.choice(found))
        for _ in range(2):
            for one, other in itertools.combinations(found, 2):
                one.meet(other)
        for one in found:
            self.assertSame(shown_by(one)[1:5], shown_by(found[0])[1:5])
            self.assertSame(one.settled, len(one.changes))

    def test_settled_changes_stay(self):
        """No change that is received later stands before them."""
        draw = random.Random(85)
        settled_before_the_end = 0
        for _ in range(30):
            found = copies(TOWN, TOWN_BOOK)
            firm = [() for _ in found]
            for _ in range(30):
                one, other = draw.sample(range(3), 2)
                if len(found[one].changes) < 20 and draw.random() < 0.6:
                    try:
                        found[one].write(town_delta(draw, found[one].book))
                    except StoreError:
                        pass
                else:
                    found[one].meet(found[other])
                for at, copy in enumerate(found):
                    self.assertSame(copy.changes[:len(firm[at])], firm[at])
                    firm[at] = copy.changes[:copy.settled]
                    settled_before_the_end += 0 < copy.settled < len(copy.changes)
        self.assertGreater(settled_before_the_end, 50)


if __name__ == "__main__":
    unittest.main()
