"""Points 86 to 88: lines of sessions, undo, entries and merged deltas."""

import random
import unittest

from storedesk.books import rows_of
from storedesk.deltas import inverse
from storedesk.errors import BadKind, BadWidth, CheckFailed, Dangling, Mismatch, NoTable
from storedesk.sessions import Sessions, replay_lines
from tests.plainly import TOWN, TOWN_BOOK, PlainSessions, outcome, town_delta, town_line
from tests.support import StoreCase, spoil

ONE = (("t", (("id", "number"),), ("id",), (), ()),)
ONE_BOOK = (("t", ((1,),)),)
KV = (("t", (("k", "any"), ("x", "any")), ("k",), (), ()), ("s", (("k", "any"),), ("k",), (), ()))
KV_BOOK = (("t", ((1, "one"), (2, "two"))), ("s", ()))


def put(table, *row):
    return (table, row[:1], None, row)


def taken(table, *row):
    return (table, row[:1], row, None)


def turned(before, after):
    return ("t", before[:1], before, after)


def refused(name):
    return ("refused", name)


class SessionCase(StoreCase):
    def lines(self, sessions, *lines):
        """Run lines of (session, line, answer)."""
        for session, line, wanted in lines:
            self.assertSame(sessions.run(session, line), wanted, (session, line))

    def alone(self, sessions, *pairs):
        self.lines(sessions, *[("ann", line, wanted) for line, wanted in pairs])


class TestLines(SessionCase):
    def test_new_sessions(self):
        sessions = Sessions(book=KV_BOOK, schema=KV)
        self.assertSame((sessions.book, sessions.history, sessions.entries), (KV_BOOK, (), ()))
        self.assertSame((len(sessions), list(sessions)), (0, []))

    def test_examples(self):
        self.assertSame(replay_lines(ONE, ONE_BOOK, [
            ("ann", "begin"), ("ann", "take t where id = 1"), ("bob", "put t (2)"),
        ]), [("begun",), ("changed", 1), ("changed", 1)])
        self.assertSame(replay_lines(ONE, ONE_BOOK, [
            ("bob", "put t (2)"), ("bob", "undo"), ("bob", "undo"), ("ann", "commit"),
        ]), [("changed", 1), ("undone", 1), refused("Closed"), refused("Closed")])

    def test_transactions(self):
        sessions = Sessions(KV, KV_BOOK)
        self.alone(
            sessions, ("commit", refused("Closed")), ("drop", refused("Closed")), ("begin", ("begun",)),
            ("begin", refused("Busy")), ("put s (1)", ("changed", 1)), ("begin", refused("Busy")),
        )
        self.assertSame((sessions.book, sessions.history), (KV_BOOK, ()))
        self.alone(sessions, ("commit", ("committed", 0)), ("commit", refused("Closed")), ("begin", ("begun",)))
        self.assertSame(sessions.history, ((0, (("s", (1,)),), (put("s", 1),)),))
        self.alone(sessions, ("take s", ("changed", 1)), ("drop", ("dropped",)), ("drop", refused("Closed")))
        self.assertSame(rows_of(sessions.book, "s"), [(1,)])
        self.alone(sessions, ("begin", ("begun",)), ("commit", ("committed", 1)))
        self.assertSame(sessions.history[1], (1, (), ()))

    def test_queries(self):
        sessions = Sessions(KV, KV_BOOK)
        self.alone(
            sessions,
            ("from t as t", ("rows", ("t.k", "t.x"), ((1, "one"), (2, "two")))),
            ("from t as t top 2 by t.k down", ("rows", ("t.k", "t.x"), ((2, "two"), (1, "one")))),
            ("\n from t as t where t.k = 3 read t.x as y", ("rows", ("y",), ())),
            ("from(from empty(x))", ("rows", ("x",), ())),
        )
        self.assertSame(sessions.history, ())
        self.alone(sessions, ("begin", ("begun",)), ("put t (3, 3)", ("changed", 1)),
                   ("from t as t top 1 by t.k down", ("rows", ("t.k", "t.x"), ((3, 3),))))
        self.lines(sessions, ("bob", "from t as t read t.k", ("rows", ("t.k",), ((1,), (2,)))))
        self.alone(sessions, ("from s as s", ("rows", ("s.k",), ())), ("commit", ("committed", 0)))
        self.assertSame(sessions.history, ((0, (("s", None), ("t", None), ("t", (3,))), (put("t", 3, 3),)),))
        self.lines(sessions, ("bob", "from t as t read t.k", ("rows", ("t.k",), ((1,), (2,), (3,)))))

    def test_changes(self):
        sessions = Sessions(KV, KV_BOOK)
        self.alone(
            sessions, ("put s (1), (2), (true)", ("changed", 3)), ("set s k to 7 where k = 1", ("changed", 2)),
            ("take s where k = 99", ("changed", 0)), ("set t x to x", ("changed", 0)), ("take t", ("changed", 2)),
        )
        # A change without edits is a record, too.
        self.assertSame([delta for _, _, delta in sessions.history], [
            (put("s", True), put("s", 1), put("s", 2)), (taken("s", 1), put("s", 7)), (), (),
            (taken("t", 1, "one"), taken("t", 2, "two")),
        ])
        self.assertSame([start for start, _, _ in sessions.history], [0, 1, 2, 3, 4])
        self.assertSame([reads for _, reads, _ in sessions.history][2:4], [(("s", None),), (("t", None),)])
        self.assertSame(sessions.book, (("t", ()), ("s", ((True,), (2,), (7,)))))

    def test_edits_of_the_line_alone_are_counted(self):
        sessions = Sessions(KV, KV_BOOK)
        self.alone(sessions, ("begin", ("begun",)), ("put s (1), (2)", ("changed", 2)), ("take s", ("changed", 2)),
                   ("put s (3)", ("changed", 1)), ("commit", ("committed", 0)))
        self.assertSame(sessions.history[0][2], (put("s", 3),))

    def test_lines_that_are_nearly_words(self):
        for inside in (False, True):
            sessions = Sessions(KV, KV_BOOK)
            if inside:
                sessions.run("ann", "begin")
            for line in ("", " ", "\n", "begin ", " begin", "begin\n", "Begin", "BEGIN", "begins", "commit ", " drop",
                         "undo undo",
                         "undo.", "commit drop", "fromage", "From t as t", "save", "show v", "keep v as from t as t",
                         "forget v", "(from t as t)", "from", "from t", "from t as t,", "put", "take", "set",
                         "take t where",
                         "empty (x)", "puts s (1)", "from t as t undo", "take t; take s", "x = 1", "\"from\"", "007"):
                self.alone(sessions, (line, refused("BadSyntax")))
            self.assertSame((sessions.book, sessions.history), (KV_BOOK, ()))

    def test_refusals(self):
        cases = (
            ("from t as t where", "BadSyntax"), ("from nope as t where x = 1", "NoTable"),
            ("from t as t read k", "NoColumn"),
            ("from t as t with t as t", "Repeated"), ("from t as t minus s as s", "Unlike"),
            ("put nope (1)", "NoTable"), ("take t where t.k = 1", "NoColumn"), ("set t x to 1, x to 2", "Repeated"),
            ("put t (1, 2, 3)", "BadWidth"), ("put t (1, 2)", "KeyTaken"), ("take nope where", "BadSyntax"),
        )
        for inside in (False, True):
            sessions = Sessions(KV, KV_BOOK)
            wanted = []
            if inside:
                self.alone(sessions, ("begin", ("begun",)))
            for line, name in cases:
                self.alone(sessions, (line, refused(name)))
                wanted.append(("ann", line, refused(name)))
            self.assertSame(sessions.entries[1 if inside else 0:], tuple(wanted))
            self.assertSame((sessions.book, sessions.history), (KV_BOOK, ()))
            # The transaction goes on, and the refused lines have read nothing.
            if inside:
                self.alone(sessions, ("put s (1)", ("changed", 1)), ("commit", ("committed", 0)))
                self.assertSame(sessions.history[0], (0, (("s", (1,)),), (put("s", 1),)))

    def test_refusals_by_the_town(self):
        sessions = Sessions(TOWN, TOWN_BOOK)
        self.alone(
            sessions, ("put city (5, -1)", refused("CheckFailed")),
            ("put person (true, none, none)", refused("BadKind")),
            ("put person (9, 5, none)", refused("Dangling")), ("take city where id = true", refused("Dangling")),
            ("set person id to 1", refused("KeyTaken")), ("put city (5, -1, 1)", refused("BadWidth")),
        )
        self.assertSame((sessions.book, sessions.history), (TOWN_BOOK, ()))

    def test_not_serial(self):
        sessions = Sessions(KV, KV_BOOK)
        self.lines(
            sessions, ("ann", "begin", ("begun",)), ("bob", "begin", ("begun",)),
            ("ann", "set t x to 5 where k = 1", ("changed", 1)), ("bob", "set t x to 6 where k = 2", ("changed", 1)),
            ("ann", "commit", ("committed", 0)), ("bob", "from t as t where t.k = 1 read t.x",
                                                  ("rows", ("t.x",), (("one",),))),
            ("bob", "commit", refused("NotSerial")), ("bob", "commit", refused("Closed")),
            ("bob", "drop", refused("Closed")),
            ("bob", "undo", refused("Closed")), ("bob", "begin", ("begun",)),
            ("bob", "from t as t where t.k = 1 read t.x", ("rows", ("t.x",), ((5,),))),
            ("bob", "commit", ("committed", 1)),
        )
        self.assertSame(sessions.book, (("t", ((1, 5), (2, "two"))), ("s", ())))

    def test_sessions_side_by_side(self):
        sessions = Sessions(KV, KV_BOOK)
        self.lines(
            sessions, ("ann", "begin", ("begun",)), ("bob", "begin", ("begun",)), ("cy", "put s (1)", ("changed", 1)),
            ("ann", "from s as s", ("rows", ("s.k",), ())), ("bob", "put t (3, 3)", ("changed", 1)),
            ("cy", "from t as t read t.k", ("rows", ("t.k",), ((1,), (2,)))), ("bob", "commit", ("committed", 1)),
            ("cy", "from t as t read t.k", ("rows", ("t.k",), ((1,), (2,), (3,)))),
            ("ann", "from t as t read t.k", ("rows", ("t.k",), ((1,), (2,)))), ("ann", "commit", ("committed", 2)),
            ("ann", "from t as t read t.k", ("rows", ("t.k",), ((1,), (2,), (3,)))),
        )
        self.assertSame(sessions.history[2], (0, (("s", None), ("t", None)), ()))

    def test_entries(self):
        sessions = Sessions(KV, KV_BOOK)
        wanted = []
        for session, line in (("ann", "begin"), ("bob", "commit"), ("ann", "put s (1)"), ("ann", "oops"),
                              ("bob", "undo"),
                              ("ann", "from s as s"), ("ann", "commit"), ("ann", "undo")):
            wanted.append((session, line, sessions.run(line=line, session=session)))
            self.assertSame(sessions.entries, tuple(wanted))
            self.assertSame(len(sessions), len(wanted))
            self.assertSame(list(sessions), wanted)
            self.assertSame([entry for entry in sessions], wanted)
        self.assertSame(wanted[-1][2], ("undone", 1))


class TestUndo(SessionCase):
    def test_one_after_another(self):
        sessions = Sessions(KV, KV_BOOK)
        self.alone(
            sessions, ("undo", refused("Closed")), ("put s (1)", ("changed", 1)), ("put s (2), (3)", ("changed", 2)),
            ("take s where k = 99", ("changed", 0)), ("undo", ("undone", 2)), ("undo", ("undone", 1)),
            ("undo", refused("Closed")), ("put s (4)", ("changed", 1)), ("undo", ("undone", 1)),
            ("undo", refused("Closed")),
        )
        self.assertSame(sessions.book, KV_BOOK)
        self.assertSame([delta for _, _, delta in sessions.history], [
            (put("s", 1),), (put("s", 2), put("s", 3)), (), (taken("s", 2), taken("s", 3)), (taken("s", 1),),
            (put("s", 4),), (taken("s", 4),),
        ])
        self.assertSame(sessions.history[3][:2], (3, (("s", (2,)), ("s", (3,)))))

    def test_an_undo_reads_as_an_edit(self):
        sessions = Sessions(TOWN, TOWN_BOOK)
        self.alone(sessions, ("put person (9, 1, none)", ("changed", 1)), ("undo", ("undone", 1)))
        self.assertSame(sessions.history[1], (1, (("note", None), ("person", None), ("person", (9,))),
                                              inverse(sessions.history[0][2])))

    def test_transactions(self):
        sessions = Sessions(KV, KV_BOOK)
        self.alone(
            sessions, ("begin", ("begun",)), ("undo", refused("Closed")), ("put s (1)", ("changed", 1)),
            ("set t x to 0", ("changed", 2)), ("set t x to 1", ("changed", 2)), ("undo", refused("Closed")),
            ("commit", ("committed", 0)), ("begin", ("begun",)), ("undo", refused("Busy")),
            ("commit", ("committed", 1)),
            ("begin", ("begun",)), ("put s (2)", ("changed", 1)), ("undo", refused("Busy")), ("drop", ("dropped",)),
            ("undo", ("undone", 3)), ("undo", refused("Closed")),
        )
        self.assertSame(sessions.book, KV_BOOK)
        self.assertSame(sessions.history[2][2], (taken("s", 1), turned((1, 1), (1, "one")), turned((2, 1), (2, "two"))))

    def test_records_of_others(self):
        sessions = Sessions(KV, KV_BOOK)
        self.lines(
            sessions, ("ann", "put s (1)", ("changed", 1)), ("bob", "put s (2)", ("changed", 1)),
            ("cy", "undo", refused("Closed")), ("ann", "undo", ("undone", 1)), ("ann", "undo", refused("Closed")),
            ("bob", "undo", ("undone", 1)),
        )
        self.assertSame(sessions.book, KV_BOOK)

    def test_a_row_that_another_session_has_changed(self):
        sessions = Sessions(KV, KV_BOOK)
        self.lines(
            sessions, ("ann", "set t x to 5 where k = 2", ("changed", 1)),
            ("ann", "set t x to 5 where k = 1", ("changed", 1)),
            ("bob", "set t x to 6 where k = 1", ("changed", 1)), ("ann", "undo", refused("Mismatch")),
            ("ann", "undo", refused("Mismatch")), ("bob", "undo", ("undone", 1)), ("ann", "undo", ("undone", 1)),
            ("ann", "undo", ("undone", 1)), ("ann", "undo", refused("Closed")),
        )
        self.assertSame(sessions.book, KV_BOOK)
        # The refused ones are no records.
        self.assertSame(len(sessions.history), 6)

    def test_a_row_that_is_the_same_again(self):
        sessions = Sessions(KV, KV_BOOK)
        self.lines(
            sessions, ("ann", "set t x to 5 where k = 1", ("changed", 1)),
            ("bob", "set t x to 6 where k = 1", ("changed", 1)),
            ("bob", "set t x to 5 where k = 1", ("changed", 1)), ("ann", "undo", ("undone", 1)),
            ("bob", "undo", refused("Mismatch")),
        )
        self.assertSame(sessions.book, KV_BOOK)
        sessions = Sessions(KV, KV_BOOK)
        self.lines(
            sessions, ("ann", "set t x to true where k = 1", ("changed", 1)),
            ("bob", "set t x to 1 where k = 1", ("changed", 1)),
            ("ann", "undo", refused("Mismatch")),
        )

    def test_a_reference_that_would_be_broken(self):
        sessions = Sessions(TOWN, TOWN_BOOK)
        self.lines(
            sessions, ("ann", "put city (5, 0)", ("changed", 1)), ("bob", "put person (9, 5, none)", ("changed", 1)),
            ("ann", "undo", refused("Dangling")), ("bob", "undo", ("undone", 1)), ("ann", "undo", ("undone", 1)),
        )
        self.assertSame(sessions.book, TOWN_BOOK)

    def test_merged_deltas_are_never_undone(self):
        sessions = Sessions(KV, KV_BOOK)
        self.assertSame(sessions.merge((put("s", 1),)), 0)
        self.lines(sessions, ("ann", "undo", refused("Closed")), ("ann", "put s (2)", ("changed", 1)))
        self.assertSame(sessions.merge((turned((1, "one"), (1, 0)),)), 2)
        self.lines(sessions, ("ann", "undo", ("undone", 1)), ("ann", "undo", refused("Closed")))
        self.assertSame(sessions.book, (("t", ((1, 0), (2, "two"))), ("s", ((1,),))))


class TestMerge(SessionCase):
    def test_records(self):
        sessions = Sessions(TOWN, TOWN_BOOK)
        delta = (("person", (3,), (3, None, 3), None), ("person", (8,), None, (8, 1, 1)))
        self.assertSame(sessions.merge(delta=delta), 0)
        self.assertSame(sessions.merge(()), 1)
        self.assertSame(sessions.history, (
            (0, (("city", (1,)), ("note", None), ("person", None), ("person", (1,)), ("person", (3,)),
                 ("person", (8,))), delta),
            (1, (), ()),
        ))
        self.assertSame(sessions.entries, ())
        self.assertSame(rows_of(sessions.book, "person")[-1], (8, 1, 1))

    def test_errors(self):
        sessions = Sessions(TOWN, TOWN_BOOK)
        for error, attributes, delta in (
            (NoTable, {"table": "q"}, (put("city", 5), put("q", 1))),
            (BadWidth, {"row": (5,)}, (put("city", 5), ("person", (8,), None, (8, True, True)))),
            (BadKind, {"column": "boss"}, (put("city", 5, -1), ("person", (8,), None, (8, None, True)))),
            (CheckFailed, {"check": 0}, (put("city", 5, -1), taken("city", 6, 6))),
            (Mismatch, {"table": "city", "key": (6,)}, (taken("city", 6, 6), taken("city", "a", True))),
            (Dangling, {"table": "person", "reference": 0, "key": (1,)}, (taken("city", "a", True),)),
        ):
            self.assertFails(error, attributes, sessions.merge, delta)
            self.assertFails(error, attributes, sessions.merge, delta=delta)
            self.assertSame((sessions.book, sessions.history, sessions.entries), (TOWN_BOOK, (), ()))
        self.assertSame(sessions.merge((put("city", 5, 5),)), 0)

    def test_transactions_go_on(self):
        sessions = Sessions(KV, KV_BOOK)
        self.lines(sessions, ("ann", "begin", ("begun",)), ("ann", "set t x to 5 where k = 1", ("changed", 1)),
                   ("bob", "begin", ("begun",)), ("bob", "put s (1)", ("changed", 1)))
        sessions.merge((turned((1, "one"), (1, 6)),))
        self.lines(sessions, ("ann", "from t as t top 1 read t.x", ("rows", ("t.x",), ((5,),))),
                   ("ann", "commit", refused("NotSerial")), ("bob", "commit", ("committed", 1)))


class TestReplaying(SessionCase):
    def test_lines(self):
        lines = [("ann", "begin"), ("ann", "take t"), ("bob", "from t as t read t.k"), ("ann", "commit"),
                 ("bob", "oops"),
                 ("bob", "from t as t"), ("ann", "undo")]
        wanted = [("begun",), ("changed", 2), ("rows", ("t.k",), ((1,), (2,))), ("committed", 0), refused("BadSyntax"),
                  ("rows", ("t.k", "t.x"), ()), ("undone", 2)]
        self.assertCall(replay_lines, {"schema": KV, "book": KV_BOOK, "lines": lines}, wanted)
        self.assertCall(replay_lines, {"schema": KV, "book": KV_BOOK, "lines": tuple(lines)}, wanted)
        self.assertSame(replay_lines(KV, KV_BOOK, []), [])
        found = replay_lines(KV, KV_BOOK, lines)
        spoil(found)
        self.assertSame(replay_lines(KV, KV_BOOK, lines), wanted)

    def test_against_a_plain_reading(self):
        draw = random.Random(86)
        answers = {}
        for _ in range(150):
            sessions, plain = Sessions(TOWN, TOWN_BOOK), PlainSessions(TOWN, TOWN_BOOK)
            names = ("ann", "bob", "cy")[:draw.randrange(1, 4)]
            merged = False
            while len(sessions.entries) < 40 and len(sessions.history) < 24:
                if draw.random() < 0.04:
                    merged = True
                    delta = town_delta(draw, plain.store.book)
                    self.assertSame(outcome(sessions.merge, delta), outcome(plain.at_once, delta))
                    continue
                session, line = draw.choice(names), town_line(draw, views=False)
                wanted = plain.run(session, line)
                self.assertSame(sessions.run(session, line), wanted, plain.entries)
                answers[wanted[:2] if wanted[0] == "refused" else wanted[0]] = True
                self.assertSame(sessions.book, plain.store.book)
                self.assertSame(sessions.history, plain.store.history)
                self.assertSame(sessions.entries, tuple(plain.entries))
            if not merged:
                lines = [(session, line) for session, line, _ in sessions]
                self.assertSame(replay_lines(TOWN, TOWN_BOOK, lines), [answer for _, _, answer in plain.entries])
        for kind in ("begun", "committed", "dropped", "rows", "changed", "undone"):
            self.assertIn(kind, answers)
        for name in ("BadSyntax", "Busy", "Closed", "NoTable", "NoColumn", "Repeated", "Unlike", "BadWidth", "BadKind",
                     "CheckFailed", "KeyTaken", "Dangling", "NotSerial", "Mismatch"):
            self.assertIn(refused(name), answers)


if __name__ == "__main__":
    unittest.main()
