"""nearplace/texts.py: points 2 and 19."""

import itertools
import unittest

from nearplace.errors import NoOrder, NoReach, NoText, NoWishes
from nearplace.numbered import nth_order
from nearplace.stands import count_orders
from nearplace.texts import order_text, reach_text, read_order, read_reach, read_wishes, wishes_text
from tests.support import ANYTHING, NO_ORDERS, NO_REACHES, REACHES, Case, EqualToAll, EqualToNone

READS = [read_order, read_reach, read_wishes]
# No one of these is a str.
NO_STRS = [thing for thing in NO_ORDERS + NO_REACHES if not isinstance(thing, str)] + [
    b"none", b"0", b"1,1", b"at 0 1", ["none"], ["0"], ("0", "1"), {"none": "none"}, ["at 0 1"], [], [0], (1, 1),
    [("at", 0, 1)],
]
# None of the three is written so.
NO_TEXTS = [
    "", " ", "  ", "\n", "None", "NONE", "none ", " none", "none none", "none\n", "no", "none,none", "none;", "-", ",",
    ";", "; ", "at", "not", "[]", "()", "[0]", "(1, 1)", "x", "~", "+", "0x0", "0" * 700, "9" * 700, "1" * 5000, " " * 700,
]
# Figures of other scripts, which Python's own digits are, and other signs that look like some.
OTHER_FIGURES = ["\u0660", "\u0966", "\uff10", "\u00b2", "\u2460", "\u2070", "\U0001d7ce"]
NO_ORDER_TEXTS = [
    "00", "01", "0 01", "1 00", "0  1", "0 1 ", " 0 1", " 0", "0 ", "0\n", "\n0", "0\n1", "0 1\n", "0\t1", "0,1", "0;1", "1",
    "2 0", "0 0", "1 2", "0 1 1", "-0", "+0", "0 -1", "0 +1", "0 1.0", "0.0", "0 one", "none 0", "0 none", "0 1 3",
    "0_0", "0 1_0", "0,", "a b", "1,0", "at 0 0",
]
NO_REACH_TEXTS = [
    "1", "1,", ",1", ",", "1,1,1", "1,1,", ",1,1", "1,,1", "1 1", "1, 1", "1 ,1", " 1,1", "1,1 ", "1,1\n", "\n1,1", "4,0",
    "0,4", "4,4", "10,1", "1,10", "01,1", "1,01", "00,0", "0,00", "-1,0", "0,-1", "+1,1", "1,+1", "1.1", "1;1", "(1,1)",
    "1,x", "x,1", "none,1", "1,none", "3,3,3", "1,1.0", "1\n,1", "1,\t1", "99,99", "1,1_0",
]
NO_WISHES_TEXTS = [
    "at", "at 0", "at 0 1 2", "at  0 1", "at 0  1", " at 0 1", "at 0 1 ", "at 0 1\n", "at\n0 1", "at 0 1;", "at 0 1; ",
    "; at 0 1", ";at 0 1", "at 0 1;at 1 0", "at 0 1 ; at 1 0", "at 0 1;  at 1 0", "at 0 1; ; at 1 0", "at 0 1;; at 1 0",
    "at 0 1;\nat 1 0", "at 0 1, at 1 0", "At 0 1", "AT 0 1", "no 0 1", "NOT 0 1", "is 0 1", "0 1", "0 at 1", "at 00 1",
    "at 0 01", "at 01 1", "at 100 1", "at 1 100", "not 0 999", "at -1 0", "at 0 -1", "at +1 0", "at 0 1.0", "at x y",
    "none; at 0 1", "at 0 1; none", "none; none", "at none 0", "at 0 1; not 0", "at 0 1; not 100 0", "at,0,1",
    "at 0 1 not 1 0", "at0 1", "at 0 1_0", "atnot 0 1", " 0 1",
]


def all_small_orders():
    return [list(order) for many in range(6) for order in itertools.permutations(range(many))]


def long_orders():
    return [nth_order(40, reach, count_orders(40, reach) * part // 4) for reach in REACHES for part in range(4)]


def some_wishes():
    every = [(word, thing, place) for word in ("at", "not") for thing in (0, 1, 9, 10, 99) for place in (0, 5, 39, 99)]
    lists = [[], every, every * 2, [("not", 99, 99)] * 60, [("at", 0, 0)] * 60]
    return [wishes[:60] for wishes in lists] + [[wish] for wish in every] + [[every[0], every[-1], every[0]]]


class Orders(Case):
    def test_some_by_hand(self):
        self.same("none", order_text([]))
        self.same("0", order_text([0]))
        self.same("2 0 1", order_text([2, 0, 1]))
        self.same("0 1 2 3 4 5 6 7 8 9 10", order_text(list(range(11))))
        self.same([], read_order("none"))
        self.same([0], read_order("0"))
        self.same([2, 0, 1], read_order("2 0 1"))

    def test_written_and_read_back(self):
        for order in all_small_orders() + long_orders() + [list(range(39, -1, -1))]:
            text = order_text(order)
            self.same(" ".join(str(thing) for thing in order) or "none", text)
            self.same(order, read_order(text))

    def test_forty_and_forty_one_things(self):
        forty = " ".join(str(thing) for thing in range(40))
        self.same(forty, order_text(list(range(40))))
        self.same(list(range(40)), read_order(forty))
        self.refuses(NoText, read_order, forty + " 40")
        self.refuses(NoText, read_order, " ".join(str(thing) for thing in range(100)))
        self.refuses(NoOrder, order_text, list(range(41)))

    def test_no_order(self):
        for thing in NO_ORDERS:
            self.refuses(NoOrder, order_text, thing)


class Reaches(Case):
    def test_all_sixteen(self):
        for left, right in REACHES:
            self.same(str(left) + "," + str(right), reach_text((left, right)))
            self.same((left, right), read_reach(reach_text((left, right))))
        self.same("2,1", reach_text((2, 1)))
        self.same((2, 1), read_reach("2,1"))

    def test_no_reach(self):
        for thing in NO_REACHES:
            self.refuses(NoReach, reach_text, thing)


class Wishes(Case):
    def test_some_by_hand(self):
        self.same("none", wishes_text([]))
        self.same("at 0 1", wishes_text([("at", 0, 1)]))
        self.same("at 0 1; not 2 2", wishes_text([("at", 0, 1), ("not", 2, 2)]))
        self.same([], read_wishes("none"))
        self.same([("at", 0, 1)], read_wishes("at 0 1"))
        self.same([("at", 0, 1), ("not", 2, 2)], read_wishes("at 0 1; not 2 2"))
        self.same([("not", 99, 10), ("not", 99, 10)], read_wishes("not 99 10; not 99 10"))

    def test_written_and_read_back(self):
        for wishes in some_wishes():
            text = wishes_text(wishes)
            self.same("; ".join(" ".join(str(item) for item in wish) for wish in wishes) or "none", text)
            self.same(wishes, read_wishes(text))

    def test_sixty_and_sixty_one(self):
        for wish in (("at", 0, 0), ("not", 99, 99)):
            sixty = wishes_text([wish] * 60)
            self.same([wish] * 60, read_wishes(sixty))
            self.refuses(NoText, read_wishes, sixty + "; at 0 0")
            self.refuses(NoText, read_wishes, sixty + "; not 99 99")
            self.refuses(NoWishes, wishes_text, [wish] * 61)

    def test_two_figures_and_three(self):
        self.same([("at", 99, 0), ("not", 0, 99)], read_wishes("at 99 0; not 0 99"))
        for text in ("at 100 0", "at 0 100", "not 100 100", "at 0 0; at 0 100"):
            self.refuses(NoText, read_wishes, text)
        for wish in (("at", 100, 0), ("not", 0, 100), ("at", 10 ** 39, 0)):
            self.refuses(NoWishes, wishes_text, [wish])
            self.refuses(NoWishes, wishes_text, [("at", 0, 0), wish])

    def test_no_wishes(self):
        single = [
            None, "at 0 1", (), ("at",), ("at", 0), ("at", 0, 1, 2), ["at", 0, 1], ("At", 0, 1), (b"at", 0, 1),
            (None, 0, 1), (0, 0, 1), (EqualToAll(), 0, 1), (EqualToNone(), 0, 1), ("at", -1, 0), ("at", 0, -1),
            ("at", True, 0), ("not", 0, False), ("at", "0", 0), ("at", 0, None), ("at", EqualToAll(), 0),
            (["at"], 0, 1), ("none", 0, 1), ("at", 0, (1,)), ("at", EqualToNone(), 0), ({}, 0, 0),
        ]
        for thing in ANYTHING + [[wish] for wish in single] + [[("at", 0, 0), wish] for wish in single] + [
            0, (), (("at", 0, 0),), ("at", 0, 0), {("at", 0, 0)}, {("at", 0, 0): 1}, "at 0 0", [[("at", 0, 0)]],
        ]:
            self.refuses(NoWishes, wishes_text, thing)


class NoTexts(Case):
    def test_of_anything(self):
        for read in READS:
            for thing in NO_STRS + NO_TEXTS:
                self.refuses(NoText, read, thing)

    def test_no_order(self):
        for text in NO_ORDER_TEXTS:
            self.refuses(NoText, read_order, text)

    def test_no_reach(self):
        for text in NO_REACH_TEXTS + ["none", "0"]:
            self.refuses(NoText, read_reach, text)

    def test_no_wishes(self):
        for text in NO_WISHES_TEXTS + ["0", "1,1"]:
            self.refuses(NoText, read_wishes, text)

    def test_figures_of_other_scripts(self):
        for figure in OTHER_FIGURES:
            for text in (figure, "0 " + figure, figure + " 0", "0" + figure, "1 0 " + figure):
                self.refuses(NoText, read_order, text)
            for text in (figure + ",0", "0," + figure, figure + "," + figure):
                self.refuses(NoText, read_reach, text)
            for text in ("at " + figure + " 0", "not 0 " + figure, "at 0 1" + figure):
                self.refuses(NoText, read_wishes, text)

    def test_a_blank_or_another_sign_more_anywhere(self):
        for read, text in ((read_order, "1 0 2"), (read_reach, "2,1"), (read_wishes, "at 0 1; not 2 2")):
            read(text)
            for at in range(len(text) + 1):
                for sign in " \n\t\r\v\f\u00a0\u2003\x1c,;+-_.":
                    self.refuses(NoText, read, text[:at] + sign + text[at:])

    def test_each_other_text_of_few_signs(self):
        due = {"none": []}
        due.update({order_text(order): order for order in all_small_orders()})
        for length in range(5):
            for signs in itertools.product("01 ,-", repeat=length):
                text = "".join(signs)
                if text in due:
                    self.same(due[text], read_order(text))
                else:
                    self.refuses(NoText, read_order, text)
        reaches = {reach_text(reach): reach for reach in REACHES}
        for length in range(5):
            for signs in itertools.product("0134, ", repeat=length):
                text = "".join(signs)
                if text in reaches:
                    self.same(reaches[text], read_reach(text))
                else:
                    self.refuses(NoText, read_reach, text)


class ListsOfTheAsker(Case):
    def test_nothing_handed_in_is_changed_and_nothing_told_is_kept(self):
        for order in all_small_orders():
            self.stays(order_text, order)
            self.stays(read_order, order_text(order))
        for reach in REACHES:
            self.stays(reach_text, reach)
            self.stays(read_reach, reach_text(reach))
        for wishes in some_wishes():
            self.stays(wishes_text, wishes)
            self.stays(read_wishes, wishes_text(wishes))

    def test_no_two_told_are_one(self):
        self.no_two_are_one([read("none") for read in (read_order, read_wishes) for time in range(2)])
        self.no_two_are_one([read_order("1 0"), read_order("1 0")])
        self.no_two_are_one([read_wishes("at 0 1"), read_wishes("at 0 1")])


if __name__ == "__main__":
    unittest.main()
