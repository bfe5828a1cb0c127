"""Points 49 to 51: what is a right page tree, its entries, its depth and its search paths."""

import random
import unittest

from storedesk.pages import depth_of, entries_of, is_tree, search_path
from tests import paged
from tests.drawn import row_order
from tests.support import StoreCase


def leaf(*keys):
    return ("leaf", tuple([((key,), (key, "row")) for key in keys]))


def branch(keys, *numbers):
    return ("branch", tuple([(key,) for key in keys]), numbers)


def pages(**more):
    """Pages given as p0=.., p1=.."""
    return tuple(sorted([(int(name[1:]), page) for name, page in more.items()], key=lambda pair: pair[0]))


TWO = pages(p0=branch([3], 1, 2), p1=leaf(1, 2), p2=leaf(3, 4))
DEEP = pages(p0=branch([5], 1, 2), p1=branch([3], 3, 4), p2=branch([7], 5, 6), p3=leaf(1, 2), p4=leaf(3, 4), p5=leaf(5,
                                                                                                                     6),
             p6=leaf(7, 8))


class PageCase(StoreCase):
    def right(self, given, *orders):
        for order in orders or (4,):
            self.assertCall(is_tree, {"pages": given, "order": order}, True)

    def wrong(self, given, *orders):
        for order in orders or (4,):
            self.assertCall(is_tree, {"pages": given, "order": order}, False)

    def changed(self, given, **more):
        """The pages with some of them replaced, added, or removed (None)."""
        table = {**dict(given), **{int(name[1:]): page for name, page in more.items()}}
        return tuple([(number, table[number]) for number in sorted(table) if table[number] is not None])


class TestRightTrees(PageCase):
    def test_one_leaf(self):
        for order in range(4, 17):
            for size in range(order + 1):
                self.right(pages(p0=leaf(*range(size))), order)
            self.wrong(pages(p0=leaf(*range(order + 1))), order)

    def test_two_levels(self):
        self.right(TWO, 4, 5)
        self.wrong(TWO, 6, 7, 16)
        self.right(DEEP, 4, 5)
        self.wrong(DEEP, 6)

    def test_sizes_of_leaves(self):
        for order in range(4, 17):
            half = order // 2
            for left in range(order + 2):
                for right in (half - 1, half, order, order + 1):
                    given = pages(p0=branch([50], 7, 9), p7=leaf(*range(left)), p9=leaf(*range(50, 50 + right)))
                    fitting = half <= left <= order and half <= right <= order
                    self.assertCall(is_tree, {"pages": given, "order": order}, fitting)

    def test_sizes_of_branches(self):
        for order in range(4, 17):
            half = order // 2
            for left in (1, half - 1, half, order, order + 1):
                for right in (1, half - 1, half, order, order + 1):
                    if (left + right) * half <= 400:
                        self.assertCall(is_tree, {"pages": wide(order, left, right), "order": order},
                                        half <= left <= order and half <= right <= order)

    def test_sizes_of_the_root(self):
        for order in range(4, 17):
            for count in range(1, order + 2):
                parts = [leaf(*range(100 * at, 100 * at + order // 2)) for at in range(count)]
                table = {f"p{at + 1}": part for at, part in enumerate(parts)}
                root = branch([100 * at for at in range(1, count)], *range(1, count + 1))
                self.assertCall(is_tree, {"pages": pages(p0=root, **table), "order": order}, 2 <= count <= order)

    def test_numbers_need_not_follow_one_another(self):
        self.right(pages(p0=branch([3], 1000000, 17), p1000000=leaf(1, 2), p17=leaf(3, 4)))


def wide(order, left, right):
    """Two branches with so many leaves of the least size each."""
    half = order // 2
    table = {}
    for at in range(left + right):
        table[f"p{at + 10}"] = leaf(*range(100 * at, 100 * at + half))
    first = branch([100 * at for at in range(1, left)], *range(10, 10 + left))
    second = branch([100 * (left + at) for at in range(1, right)], *range(10 + left, 10 + left + right))
    return pages(p0=branch([100 * left], 1, 2), p1=first, p2=second, **table)


class TestBrokenRules(PageCase):
    def test_numbers(self):
        self.wrong(())
        self.wrong(TWO[::-1])
        self.wrong((TWO[0], TWO[2], TWO[1]))
        self.wrong((TWO[0], *TWO))
        self.wrong((*TWO, TWO[2]))
        self.wrong(((0, leaf()), (0, leaf())))
        self.wrong(((1, leaf(1)),))
        self.wrong(tuple([(number + 1, page) for number, page in TWO]))
        self.wrong(pages(p1=branch([3], 2, 3), p2=leaf(1, 2), p3=leaf(3, 4)))

    def test_keys_and_numbers_of_a_branch(self):
        self.wrong(self.changed(TWO, p0=branch([], 1, 2)))
        self.wrong(self.changed(TWO, p0=branch([3, 9], 1, 2)))
        self.wrong(self.changed(DEEP, p1=branch([], 3, 4)))
        self.wrong(self.changed(DEEP, p2=branch([7, 9], 5, 6)))
        self.wrong(pages(p0=branch([], 1), p1=leaf(1, 2)))
        self.wrong(pages(p0=branch([])))
        self.wrong(pages(p0=branch([1])))

    def test_pages_that_are_named(self):
        self.wrong(self.changed(TWO, p2=None))
        self.wrong(self.changed(TWO, p0=branch([3], 1, 9)))
        self.wrong(self.changed(TWO, p0=branch([3, 5], 1, 2, 9)))
        self.wrong(self.changed(TWO, p3=leaf(5, 6)))
        self.wrong(self.changed(TWO, p3=leaf()))
        self.wrong(self.changed(TWO, p0=branch([3], 1, 1)))
        self.wrong(self.changed(TWO, p0=branch([3, 5], 1, 2, 2)))
        self.wrong(self.changed(TWO, p0=branch([1], 0, 1), p2=None))
        self.wrong(pages(p0=leaf(1, 2), p1=leaf(3, 4)))
        self.wrong(self.changed(DEEP, p2=branch([7], 5, 4)))
        self.wrong(self.changed(DEEP, p2=branch([7], 5, 4), p6=None))
        self.wrong(self.changed(DEEP, p0=branch([5, 9], 1, 2, 6)))

    def test_rings(self):
        """Pages that name each other are not reached from page 0, or page 0 is in the ring."""
        self.wrong(pages(p0=branch([3], 0, 0)))
        self.wrong(pages(p0=branch([3], 1, 2), p1=branch([1], 0, 3), p2=leaf(3, 4), p3=leaf(1, 2)))
        self.wrong(self.changed(TWO, p3=branch([9], 4, 5), p4=branch([8], 3, 6), p5=leaf(9, 10), p6=leaf(8, 9)))
        self.wrong(self.changed(TWO, p3=branch([9], 3, 4), p4=leaf(9, 10)))
        self.wrong(self.changed(TWO, p3=branch([9], 4, 4), p4=branch([9], 3, 3)))
        self.wrong(self.changed(DEEP, p2=branch([7], 2, 6), p5=None))
        self.wrong(self.changed(DEEP, p2=branch([7], 1, 6), p5=None))
        ring = {f"p{at}": branch([], at + 1) for at in range(10, 400)}
        self.wrong(pages(p0=leaf(1, 2), **ring, p400=branch([], 10)))
        self.wrong(pages(p0=branch([], 10), **ring, p400=branch([], 10)))

    def test_long_chains(self):
        chain = {f"p{at}": branch([], at + 1) for at in range(600)}
        self.wrong(pages(**chain, p600=leaf(1, 2)))
        chain = {f"p{at}": branch([2 * at + 2], 1000 + at, at + 1) for at in range(150)}
        leaves = {f"p{1000 + at}": leaf(2 * at, 2 * at + 1) for at in range(150)}
        self.wrong(pages(**chain, **leaves, p150=leaf(300, 301)))

    def test_paths_of_several_lengths(self):
        self.wrong(pages(p0=branch([5], 1, 2), p1=branch([3], 3, 4), p2=leaf(5, 6), p3=leaf(1, 2), p4=leaf(3, 4)))
        self.wrong(pages(p0=branch([3], 1, 2), p1=leaf(1, 2), p2=branch([5], 3, 4), p3=leaf(3, 4), p4=leaf(5, 6)))
        self.wrong(self.changed(DEEP, p6=branch([9], 7, 8), p7=leaf(7, 8), p8=leaf(9, 10)))

    def test_order_of_the_entries(self):
        self.wrong(pages(p0=leaf(2, 1)))
        self.wrong(pages(p0=leaf(1, 1)))
        self.wrong(pages(p0=leaf(1, True)))
        self.right(pages(p0=leaf(None, True, 1, "")))
        self.right(pages(p0=leaf(False, True, 0, 1)))
        self.wrong(self.changed(TWO, p1=leaf(2, 1)))
        self.wrong(self.changed(TWO, p2=leaf(3, 3)))
        self.wrong(self.changed(TWO, p0=branch([3], 2, 1)))
        self.wrong(self.changed(TWO, p1=leaf(1, 3)))
        self.wrong(self.changed(DEEP, p3=leaf(3, 4), p4=leaf(1, 2)))
        self.wrong(self.changed(DEEP, p4=leaf(3, 5)))

    def test_keys_of_branches(self):
        for key, fitting in ((1, False), (2, False), (3, True), (4, False), ("", False), (None, False)):
            self.assertCall(is_tree, {"pages": self.changed(TWO, p0=branch([key], 1, 2)), "order": 4}, fitting)
        apart = self.changed(TWO, p2=leaf(30, 40))
        for key, fitting in ((2, False), (3, True), (17, True), (30, True), (31, False), (40, False), (False, False)):
            self.assertCall(is_tree, {"pages": self.changed(apart, p0=branch([key], 1, 2)), "order": 4}, fitting)
        for key, fitting in ((1, False), (3, False), (4, False), (5, True), (6, False), (7, False), (8, False)):
            self.assertCall(is_tree, {"pages": self.changed(DEEP, p0=branch([key], 1, 2)), "order": 4}, fitting)
        three = pages(p0=branch([3, 5], 1, 2, 3), p1=leaf(1, 2), p2=leaf(3, 4), p3=leaf(5, 6))
        self.right(three)
        self.wrong(self.changed(three, p0=branch([5, 3], 1, 2, 3)))
        self.wrong(self.changed(three, p0=branch([3, 3], 1, 2, 3)))
        self.wrong(self.changed(three, p0=branch([5, 5], 1, 2, 3)))

    def test_keys_that_are_prefixes(self):
        low = ("leaf", (((), ()), (("a",), ()), (("a", None), ())))
        high = ("leaf", ((("a", 1), ()), (("a", 1, 0), ())))
        for key, fitting in ((("a",), False), (("a", None), False), (("a", None, None), True), (("a", True), True),
                             (("a", 1), True), (("a", 1, None), False), ((), False)):
            given = pages(p0=("branch", (key,), (1, 2)), p1=low, p2=high)
            self.assertCall(is_tree, {"pages": given, "order": 4}, fitting)

    def test_true_beside_one(self):
        low, high = leaf(False, True), leaf(0, 1)
        for key, fitting in ((0, True), (-1, True), (True, False), (1, False), (False, False)):
            self.assertCall(is_tree, {"pages": pages(p0=branch([key], 1, 2), p1=low, p2=high), "order": 4}, fitting)
        self.wrong(pages(p0=branch([0], 1, 2), p1=high, p2=low))


class TestReading(PageCase):
    def test_entries(self):
        eight = list(range(1, 9))
        for given, keys in ((pages(p0=leaf()), []), (pages(p0=leaf(5)), [5]), (TWO, eight[:4]), (DEEP, eight)):
            self.assertCall(entries_of, {"pages": given}, [((key,), (key, "row")) for key in keys])
        turned = pages(p0=branch([3], 9, 2), p9=leaf(1, 2), p2=leaf(3, 4))
        self.assertSame([key for key, _ in entries_of(turned)], [(1,), (2,), (3,), (4,)])

    def test_depth(self):
        for given, wanted in ((pages(p0=leaf()), 1), (pages(p0=leaf(1)), 1), (TWO, 2), (DEEP, 3)):
            self.assertCall(depth_of, {"pages": given}, wanted)

    def test_search_path(self):
        for key, wanted in (
            ((), [0, 1, 3]), ((1,), [0, 1, 3]), ((2, "z"), [0, 1, 3]), ((3,), [0, 1, 4]), ((3, None), [0, 1, 4]),
            ((4, 4), [0, 1, 4]), ((5,), [0, 2, 5]), ((True,), [0, 1, 3]), ((7,), [0, 2, 6]), ((6, "x"), [0, 2, 5]),
            (("",), [0, 2, 6]), ((9,), [0, 2, 6]),
        ):
            self.assertCall(search_path, {"pages": DEEP, "key": key}, wanted)
        self.assertCall(search_path, {"pages": pages(p0=leaf()), "key": (1,)}, [0])
        between = pages(p0=branch([17], 8, 4), p8=leaf(1, 2), p4=leaf(30, 40))
        for key, wanted in (((16,), [0, 8]), ((17,), [0, 4]), ((17, None), [0, 4]), ((29,), [0, 4])):
            self.assertCall(search_path, {"pages": between, "key": key}, wanted)


class TestDrawn(PageCase):
    def test_right_trees(self):
        draw = random.Random(50)
        depths = []
        for order in range(4, 17):
            for count in (0, 1, 3, order, order + 1, 3 * order, 60, 200, 400):
                content = paged.entries(draw, count)
                given = paged.built(draw, content, order)
                self.assertTrue(paged.is_right(given, order))
                self.assertSame(is_tree(given, order), True)
                self.assertSame(entries_of(given), content)
                depths.append(depth_of(given))
                self.assertEqual(depths[-1], len(paged.all_paths(dict(given))[0]))
                for key in [key for key, _ in content[::7]] + paged.keys(draw, 10):
                    self.check_path(given, key)
        self.assertGreater(max(depths), 4)

    def check_path(self, given, key):
        path = search_path(given, key)
        table = dict(given)
        self.assertEqual(path[0], 0)
        for number, following in zip(path, path[1:]):
            passed = [one for one in table[number][1] if row_order(one) <= row_order(key)]
            self.assertEqual(table[number][2][len(passed)], following)
        self.assertEqual(table[path[-1]][0], "leaf")

    def test_spoilt_trees(self):
        """What is_tree says is what point 50 says, rule by rule."""
        draw = random.Random(51)
        right = 0
        for at in range(3000):
            order = draw.choice((4, 4, 5, 6))
            given = paged.built(draw, paged.entries(draw, draw.randrange(2, 40)), order)
            for _ in range(draw.randrange(1, 3)):
                given = self.spoilt(draw, given)
            wanted = paged.is_right(given, order)
            right += wanted
            self.assertSame(is_tree(given, order), wanted, (given, order))
        self.assertGreater(right, 100)

    def spoilt(self, draw, given):
        if not given:
            return given
        table = dict(given)
        number = draw.choice(list(table))
        page = table[number]
        way = draw.randrange(9)
        if way == 0:
            del table[number]
        elif way == 1:
            table[draw.randrange(1, 1000)] = page
        elif page[0] == "leaf":
            content = list(page[1])
            if way < 4 and content:
                del content[draw.randrange(len(content))]
            elif way < 6:
                content.insert(draw.randrange(len(content) + 1), ((draw.randrange(40),), ()))
            elif way < 8 and len(content) > 1:
                content[0], content[-1] = content[-1], content[0]
            table[number] = ("leaf", tuple(content))
        else:
            between, numbers = list(page[1]), list(page[2])
            if way < 4 and between:
                between[draw.randrange(len(between))] = (draw.choice((None, True, 1, 20, "a")),)
            elif way == 4 and between:
                del between[draw.randrange(len(between)):]
            elif way == 5:
                numbers[draw.randrange(len(numbers))] = draw.choice(list(table))
            elif way == 6 and between:
                del between[0], numbers[0]
            elif way == 7:
                draw.shuffle(numbers)
            elif way == 8:
                numbers.append(draw.choice((*table, 1001)))
                between.append(("z",))
            table[number] = ("branch", tuple(between), tuple(numbers))
        listed = sorted(table) if draw.random() < 0.97 else list(table)[::-1]
        return tuple([(one, table[one]) for one in listed])


if __name__ == "__main__":
    unittest.main()
