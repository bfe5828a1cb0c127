"""Points 52 and 53: the page tree as an ordered map, and what one call changes in its pages."""

import copy
import random
import unittest

from storedesk.errors import NotATree
from storedesk.pages import depth_of, entries_of, is_tree
from storedesk.pagetree import PageTree
from tests import paged
from tests.drawn import row_order
from tests.support import StoreCase

TWO = (
    (0, ("branch", ((3,),), (1, 2))),
    (1, ("leaf", (((1,), (1, "a")), ((2,), (2, "b"))))),
    (2, ("leaf", (((3,), (3, "c")), ((4,), (4, "d"))))),
)
ORDERS = range(4, 17)


def place(key):
    return tuple(row_order(key))


def differing(then, now):
    """What a drain returns for two dicts of pages; what is written in the same way is the same."""
    numbers = [one for one in sorted({**then, **now}) if repr(then.get(one)) != repr(now.get(one))]
    return [(one, then.get(one), now.get(one)) for one in numbers]


def even_pages(size, count):
    """A branch over so many leaves of one size each."""
    keys = [[(100 * part + at,) for at in range(size)] for part in range(count)]
    leaves = [(part + 1, ("leaf", tuple([(key, (key[0], "x")) for key in keys[part]]))) for part in range(count)]
    root = ("branch", tuple([part[0] for part in keys[1:]]), tuple(range(1, count + 1)))
    return ((0, root), *leaves)


class TreeCase(StoreCase):
    def check(self, tree, wanted, order):
        """The pages are a right page tree of the order with these entries; wanted is a dict from places to entries."""
        content = [wanted[one] for one in sorted(wanted)]
        self.assertTrue(is_tree(tree.pages, order), tree.pages)
        self.assertTrue(paged.is_right(tree.pages, order))
        self.assertSame(entries_of(tree.pages), content)
        self.assertSame(tree.scan(), content)
        self.assertSame(len(tree), len(content))
        self.assertSame(tree.order, order)

    def filled(self, content, order):
        tree = PageTree(order=order)
        for key, row in content:
            self.assertIsNone(tree.put(key, row))
        return tree


class TestMap(TreeCase):
    def test_a_new_tree(self):
        for tree, order in ((PageTree(), 8), (PageTree(order=4), 4), (PageTree(order=16), 16)):
            self.assertSame(tree.pages, ((0, ("leaf", ())),))
            self.assertSame(tree.order, order)
            self.assertSame(len(tree), 0)
            self.assertSame(tree.scan(), [])
            self.assertSame(tree.drain(), [])
            self.assertIsNone(tree.look((1,)))
            self.assertIs((1,) in tree, False)
            self.assertIs(() in tree, False)
            self.assertIsNone(tree.take((1,)))

    def test_putting(self):
        tree = PageTree(order=4)
        self.assertIsNone(tree.put((1,), ("a",)))
        self.assertSame(tree.pages, ((0, ("leaf", (((1,), ("a",)),))),))
        self.assertSame(tree.put((1,), ("b", 2)), ("a",))
        self.assertSame(tree.look((1,)), ("b", 2))
        self.assertSame(tree.put(row=(), key=(1,)), ("b", 2))
        self.assertSame(tree.look(key=(1,)), ())
        self.assertIsNone(tree.put(key=(0,), row=(5,)))
        self.assertSame(tree.scan(), [((0,), (5,)), ((1,), ())])
        self.assertSame(len(tree), 2)

    def test_taking(self):
        tree = self.filled([((at,), (at, at)) for at in range(9)], 4)
        self.assertSame(tree.take((4,)), (4, 4))
        self.assertIsNone(tree.take((4,)))
        self.assertIsNone(tree.take(key=(9,)))
        self.assertSame(tree.take(key=(0,)), (0, 0))
        self.assertSame([key for key, _ in tree.scan()], [(1,), (2,), (3,), (5,), (6,), (7,), (8,)])
        self.assertIsNone(tree.look((4,)))
        self.assertIs((4,) in tree, False)
        self.assertIs((5,) in tree, True)
        self.assertSame(len(tree), 7)

    def test_true_beside_one(self):
        tree = PageTree(order=4)
        for key in ((1,), (True,), (0,), (False,), (1, True), (True, 1), ("1",)):
            self.assertIsNone(tree.put(key, key))
        self.assertSame([key for key, _ in tree.scan()], [(False,), (True,), (True, 1), (0,), (1,), (1, True), ("1",)])
        self.assertSame(tree.look((True,)), (True,))
        self.assertSame(tree.look((1,)), (1,))
        self.assertIs((True, True) in tree, False)
        self.assertIs((1, 1) in tree, False)
        self.assertSame(tree.take((1,)), (1,))
        self.assertIs((1,) in tree, False)
        self.assertIs((True,) in tree, True)
        self.assertSame(tree.put((0,), (False,)), (0,))
        self.assertSame(tree.put((0,), (0,)), (False,))
        self.assertSame(tree.look((0,)), (0,))

    def test_keys_that_are_prefixes(self):
        keys = [(), (None,), (None, None), ("a",), ("a", None), ("a", 0), ("a", 0, ""), ("b",)]
        tree = self.filled([(key, (len(key),)) for key in keys[::-1]], 4)
        self.assertSame([key for key, _ in tree.scan()], keys)
        for key in keys:
            self.assertSame(tree.look(key), (len(key),))
            self.assertIs((*key, "z") in tree, False)
        self.assertSame(tree.take(()), (0,))
        self.assertSame(tree.take(("a", 0)), (2,))
        self.assertIs(("a", 0, "") in tree, True)

    def test_the_same_calls_give_the_same_pages(self):
        draw = random.Random(1)
        calls = [(draw.random() < 0.6, (draw.randrange(60),)) for _ in range(300)]
        results = []
        for _ in range(2):
            tree = PageTree(order=5)
            for putting, key in calls:
                tree.put(key, key) if putting else tree.take(key)
            results.append((tree.pages, tree.drain()))
        self.assertSame(results[0], results[1])


class TestLoaded(TreeCase):
    def test_pages(self):
        for order in ORDERS:
            draw = random.Random(order)
            for count in (0, 1, order, 2 * order, 100, 400):
                content = paged.entries(draw, count)
                pages = paged.built(draw, content, order)
                before = copy.deepcopy(pages)
                tree = PageTree.loaded(pages, order=order)
                self.assertSame(tree.pages, pages)
                self.assertSame(tree.drain(), [])
                self.assertSame(tree.pages, pages)
                self.check(tree, {place(key): (key, row) for key, row in content}, order)
                for key, row in content[:3]:
                    tree.take(key)
                tree.put(("new",), ())
                self.assertSame(pages, before)

    def test_default_order(self):
        content = tuple([((at,), ()) for at in range(8)])
        self.assertSame(PageTree.loaded(((0, ("leaf", content)),)).order, 8)
        self.assertSame(PageTree.loaded(pages=TWO, order=5).order, 5)
        self.assertFails(NotATree, {}, PageTree.loaded, ((0, ("leaf", (*content, ((8,), ())))),))
        self.assertFails(NotATree, {}, PageTree.loaded, TWO)

    def test_not_a_tree(self):
        for pages, order in (
            ((), 4), (TWO, 6), (TWO[::-1], 4), (TWO[:2], 4), (TWO[1:], 4), ((*TWO, (3, ("leaf", ()))), 4),
            (((0, ("leaf", TWO[2][1][1] + TWO[1][1][1])),), 4), (((0, ("branch", ((4,),), (1, 2))), *TWO[1:]), 4),
            (((0, ("branch", ((3,),), (1, 0))), *TWO[1:]), 4), (((0, ("branch", (), (1, 2))), *TWO[1:]), 4),
        ):
            self.assertFails(NotATree, {}, PageTree.loaded, pages, order=order)
            self.assertFails(NotATree, {}, PageTree.loaded, order=order, pages=pages)


class TestScan(TreeCase):
    def scanned(self, tree, low, high, *wanted):
        found = [((key), tree.look(key)) for key in wanted]
        self.assertSame(tree.scan(low, high), found, (low, high))
        self.assertSame(tree.scan(low=low, high=high, reverse=False), found)
        self.assertSame(tree.scan(high=high, low=low, reverse=True), found[::-1])

    def test_ends(self):
        for order in (4, 5, 16):
            tree = self.filled([((at,), (str(at),)) for at in range(0, 20, 2)], order)
            self.scanned(tree, (4,), (8,), (4,), (6,), (8,))
            self.scanned(tree, (3,), (9,), (4,), (6,), (8,))
            self.scanned(tree, (), (3,), (0,), (2,))
            self.scanned(tree, (15,), (), (16,), (18,))
            self.scanned(tree, (6,), (6,), (6,))
            self.scanned(tree, (7,), (7,))
            self.scanned(tree, (8,), (4,))
            self.scanned(tree, (19,), ())
            self.scanned(tree, (), (True,))
            self.scanned(tree, (True,), (0,), (0,))
            self.scanned(tree, (), (), *[(at,) for at in range(0, 20, 2)])
            self.assertSame(tree.scan((16,)), [((16,), ("16",)), ((18,), ("18",))])
            self.assertSame(tree.scan(high=(2,)), [((0,), ("0",)), ((2,), ("2",))])
            self.assertSame(tree.scan(reverse=True), tree.scan()[::-1])

    def test_prefixes(self):
        keys = [(1,), (1, None), (1, 2), (1, 2, 3), (1, "x"), (2,), (2, 0), (3, 5)]
        for order in (4, 5, 16):
            tree = self.filled([(key, key) for key in keys], order)
            self.scanned(tree, (1,), (1,), *keys[:5])
            self.scanned(tree, (1, 2), (1, 2), *keys[2:4])
            self.scanned(tree, (1, 2), (1,), *keys[2:5])
            self.scanned(tree, (1, 3), (1,), (1, "x"))
            self.scanned(tree, (1,), (1, 2), *keys[:4])
            self.scanned(tree, (1, 2), (2,), *keys[2:7])
            self.scanned(tree, (1, 2, 3), (1, 2), (1, 2, 3))
            self.scanned(tree, (3,), (3,), (3, 5))
            self.scanned(tree, (2, 1), (2,))
            self.scanned(tree, (2,), (1,))
            self.scanned(tree, (3, 5, None), ())
            self.scanned(tree, (), (0,))
            self.scanned(tree, (True,), (True,))
            self.scanned(tree, (1, True), (1, 2, 3, 4), *keys[2:4])

    def test_texts(self):
        for order in (4, 5, 16):
            keys = [(at,) for at in range(30)] + [(f"{mark}{at}",) for mark in "abcxyz" for at in range(5)]
            tree = self.filled([(key, key) for key in keys], order)
            for at in range(0, 60, 7):
                self.scanned(tree, keys[at], (), *keys[at:])
                self.scanned(tree, (), keys[at], *keys[:at + 1])
                self.scanned(tree, keys[at], keys[-1], *keys[at:])
            self.scanned(tree, ("",), ("b",), *keys[30:35])
            self.scanned(tree, ("b2z",), ("y0",), *keys[38:51])

    def test_drawn(self):
        draw = random.Random(52)
        for order in (4, 5, 8, 16):
            content = paged.entries(draw, 100)
            tree = PageTree.loaded(paged.built(draw, content, order), order=order)
            places = [place(key) for key, _ in content]
            ends = [(), *paged.keys(draw, 10), *[key for key, _ in content[::13]], *[key[:1] for key,
                                                                                     _ in content[::17]]]
            for low in ends:
                for high in ends:
                    first, last = place(low), place(high)
                    wanted = [entry for entry, at in zip(content, places)
                              if first <= at and (at <= last or at[:len(last)] == last)]
                    self.assertSame(tree.scan(low, high), wanted, (low, high))
                    self.assertSame(tree.scan(low, high, reverse=True), wanted[::-1])


class TestPages(TreeCase):
    """After each call the pages are right, and the call has changed no more of them than it may."""

    def run_calls(self, order, calls, tree=None, wanted=None):
        """Calls are pairs (key, row), where row None means a take."""
        tree = PageTree(order=order) if tree is None else tree
        wanted = {} if wanted is None else wanted
        for at, (key, row) in enumerate(calls):
            before, most = dict(tree.pages), 2 * depth_of(tree.pages) + 1
            tree.drain()
            old = wanted.get(place(key), (None, None))[1]
            if row is None:
                self.assertSame(tree.take(key), old)
                wanted.pop(place(key), None)
            else:
                self.assertSame(tree.put(key, row), old)
                wanted[place(key)] = (key, row)
            if at % 25 == 0:
                self.check(tree, wanted, order)
            self.assertTrue(is_tree(tree.pages, order), tree.pages)
            self.check_drained(tree.drain(), before, dict(tree.pages), most)
        self.check(tree, wanted, order)
        return tree, wanted

    def check_drained(self, drained, before, after, most):
        self.assertLessEqual(len(drained), most)
        self.assertSame(drained, differing(before, after))

    def test_ascending_and_descending(self):
        for order in ORDERS:
            up = [((at,), (at, "x")) for at in range(70)]
            for puts in (up, up[::-1]):
                for takes in (up, up[::-1], up[40:] + up[:40], up[::2] + up[1::2]):
                    tree, wanted = self.run_calls(order, [*puts, *[(key, None) for key, _ in takes]])
                    self.assertSame(tree.pages, ((0, ("leaf", ())),))
                    self.assertSame(wanted, {})

    def test_mixed(self):
        for order in ORDERS:
            draw = random.Random(order)
            keys = paged.keys(draw, 300)
            calls = []
            for at in range(400):
                share = 0.75 if at % 200 < 130 else 0.25
                calls.append((draw.choice(keys), (at,) if draw.random() < share else None))
            self.run_calls(order, calls)

    def test_loaded_pages(self):
        """From any right page tree the next one is right, whatever its pages' sizes and its branches' keys."""
        draw = random.Random(53)
        for order in ORDERS:
            for count in (6, 20, 60, 150):
                content = paged.entries(draw, count)
                tree = PageTree.loaded(paged.built(draw, content, order), order=order)
                wanted = {place(key): (key, row) for key, row in content}
                calls = [(key, None) for key, _ in content] + [(key, ("new",)) for key in paged.keys(draw, 30)]
                self.run_calls(order, draw.sample(calls, len(calls)), tree, wanted)

    def test_leaves_with_the_fewest_and_the_most_entries(self):
        for order in ORDERS:
            for size in (order // 2, order):
                for count in (2, 3, order):
                    pages = even_pages(size, count)
                    content = entries_of(pages)
                    wanted = {place(key): (key, row) for key, row in content}
                    for key, row in content[::max(1, len(content) // 12)]:
                        self.run_calls(order, [(key, None)], PageTree.loaded(pages, order=order), dict(wanted))
                        self.run_calls(order, [((*key, 0), row)], PageTree.loaded(pages, order=order), dict(wanted))

    def test_a_key_of_a_branch_that_is_no_entrys_key(self):
        pages = (TWO[0], TWO[1], (2, ("leaf", (((4,), ()), ((5,), ())))))
        for key in ((3,), (2, None), (3, None), (2, 7)):
            tree = PageTree.loaded(((0, ("branch", ((3,),), (1, 2))), *pages[1:]), order=4)
            self.assertIsNone(tree.look(key))
            wanted = {place(key): (key, row) for key, row in tree.scan()}
            self.run_calls(4, [(key, ("new",)), ((3, 0), ()), (key, None), ((4,), None), ((5,), None)], tree, wanted)

    def test_four_hundred_entries(self):
        for order in (4, 7, 16):
            draw = random.Random(order)
            puts = [((at % 7, at), (at,)) for at in draw.sample(range(1000), 400)]
            tree, _ = self.run_calls(order, puts)
            self.assertSame(len(tree), 400)
            self.run_calls(order, [(key, None) for key, _ in draw.sample(puts, 400)], tree, {place(key): (key,
                                                                                                          row) for key,
                                                                                                          row in puts})

    def test_calls_that_change_nothing(self):
        draw = random.Random(54)
        for order in (4, 8, 16):
            content = paged.entries(draw, 150)
            tree = PageTree.loaded(paged.built(draw, content, order), order=order)
            pages = tree.pages
            for key, row in content:
                self.assertSame(tree.put(key, row), row)
                self.assertIsNone(tree.take((*key, "none such")))
            tree.look((1,)), tree.scan((1,), (2,)), len(tree), (1,) in tree, tree.pages
            self.assertSame(tree.pages, pages)
            self.assertSame(tree.drain(), [])

    def test_another_row(self):
        tree = PageTree.loaded(TWO, order=4)
        for row, old in (((2, "z"), (2, "b")), ((True, "z"), (2, "z")), ((1, "z"), (True, "z")), ((), (1, "z"))):
            then = dict(tree.pages)
            self.assertSame(tree.put((2,), row), old)
            self.assertSame(tree.look((2,)), row)
            drained = tree.drain()
            self.assertSame(drained, differing(then, dict(tree.pages)))
            self.assertGreater(len(drained), 0)
            self.assertSame(tree.put((2,), row), row)
            self.assertSame(tree.drain(), [])


class TestDrain(TreeCase):
    def test_since_the_last_drain(self):
        tree = PageTree(order=4)
        self.assertSame(tree.drain(), [])
        tree.put((1,), ("a",))
        tree.put((2,), ("b",))
        two = ("leaf", (((1,), ("a",)), ((2,), ("b",))))
        self.assertSame(tree.drain(), [(0, ("leaf", ()), two)])
        self.assertSame(tree.drain(), [])
        tree.take((1,))
        self.assertSame(tree.drain(), [(0, two, ("leaf", (((2,), ("b",)),)))])
        self.assertSame(tree.drain(), [])

    def test_several_calls(self):
        """What has become the same again is not among the changed pages."""
        tree = PageTree.loaded(TWO, order=4)
        for calls in ((("put", 2, "z"), ("put", 2, "b")), (("put", 5, "z"), ("take", 5, None)), (("put", 9, "x"),),
                      (("take", 1, None), ("take", 2, None), ("take", 3, None)), (("put", 1, "a"), ("put", 2, "b")),
                      (("put", 2, "B"),), (("put", 2, "b"),), ()):
            then = dict(tree.pages)
            for word, key, text in calls:
                tree.put((key,), (key, text)) if word == "put" else tree.take((key,))
            self.assertSame(tree.drain(), differing(then, dict(tree.pages)))
            self.assertSame(tree.drain(), [])

    def test_pages_that_are_gone_and_come_back(self):
        draw = random.Random(55)
        for order in (4, 5, 9):
            tree = PageTree(order=order)
            seen = {"gone": 0, "come": 0}
            then = dict(tree.pages)
            for at in range(60):
                for _ in range(draw.randrange(1, 16)):
                    key = (draw.randrange(50),)
                    tree.take(key) if (draw.random() < 0.8) == (at % 2 == 1) else tree.put(key, (draw.randrange(3),))
                now = dict(tree.pages)
                drained = tree.drain()
                self.assertSame(drained, differing(then, now))
                for _, before, after in drained:
                    seen["gone"] += after is None
                    seen["come"] += before is None
                then = now
            self.assertGreater(min(seen["gone"], seen["come"]), 2)

    def test_a_root_that_grows_and_shrinks(self):
        tree = self.filled([((at,), ()) for at in range(4)], 4)
        leaf = tree.pages[0][1]
        tree.drain()
        tree.put((4,), ())
        grown = tree.drain()
        self.assertSame([(number, before) for number, before, _ in grown], [(0, leaf), (grown[1][0], None),
                                                                            (grown[2][0], None)])
        self.assertSame(grown[0][2][0], "branch")
        for at in (4, 3, 2):
            tree.take((at,))
        shrunk = tree.drain()
        self.assertSame(shrunk[0][2], ("leaf", (((0,), ()), ((1,), ()))))
        self.assertSame([after for _, _, after in shrunk[1:]], [None, None])
        self.assertSame(tree.pages, ((0, shrunk[0][2]),))


class TestWhatIsReturned(TreeCase):
    def test_changed_lists_change_nothing(self):
        tree = self.filled([((at,), (at,)) for at in range(20)], 4)
        wanted = tree.scan()
        for found in (tree.scan(), tree.scan((1,), (7,)), tree.scan(reverse=True), tree.drain()):
            found.reverse()
            del found[1:]
            found.append("spoilt")
        self.assertSame(tree.scan(), wanted)
        self.assertSame(tree.drain(), [])
        self.assertSame(len(tree), 20)
        self.assertIsInstance(tree.pages, tuple)

    def test_pages_are_kept_by_the_caller(self):
        tree = self.filled([((at,), (at,)) for at in range(20)], 4)
        pages = tree.pages
        before = copy.deepcopy(pages)
        for at in range(20):
            tree.take((at,))
        self.assertSame(pages, before)
        other = PageTree.loaded(pages, order=4)
        other.put((99,), ())
        self.assertSame(tree.pages, ((0, ("leaf", ())),))
        self.assertSame(pages, before)


if __name__ == "__main__":
    unittest.main()
