"""nearplace/desk.py: points 2, 3, 20 and 21."""

import inspect
import itertools
import unittest

from nearplace.desk import Desk
from nearplace.drawn import drawn
from nearplace.errors import NoAsk, NoKeep, NoNumber, NoRolls, NoText, NoWishes, PlaceError
from nearplace.far import far_count, rule_of
from nearplace.numbered import next_order, number_of
from nearplace.orders import how_near
from nearplace.rings import ring_count
from nearplace.spread import by_moved, by_pairs
from nearplace.stands import count_orders
from nearplace.texts import order_text, reach_text
from nearplace.wishes import count_wished, first_wished, nth_wished, places_wished
from tests.support import NO_ORDERS, NO_REACHES, REACHES, Case, kept_orders
from tests.test_texts import NO_ORDER_TEXTS, NO_REACH_TEXTS, OTHER_FIGURES

ALONE = ["free", "count", "first", "ring", "moved", "pairs", "rule"]
WITH_NUMBER = ["nth", "places", "long"]
WITH_ORDER = ["number", "next", "near"]
# No figures, at most nine, without a 0 ahead.
NO_FIGURES = [
    "", "00", "01", "007", "-1", "+1", "1.0", "1,0", "1_0", "x", "1x", "0x1", "none", "1000000000", "0000000000", "9" * 30,
    "1" * 5000, "1\t", "\t1", "1\r", "1\n", "1;", "one", "\u00a01",
] + OTHER_FIGURES
NO_LINES = [
    "", " ", "  ", "\n", "ask", "Count", "COUNT", "counts", "coun", "c", "none", "ok", "0", "1,1", "0 1", "count\n", "\ncount",
    "count\ncount", "row", "wish", "nth", "places", "number", "next", "near", "draw", "long", "row ", "wish ", "nth ",
    "places ", "draw ", "long ", "row  ", "row 3", "row 3,3", "row 1,1 3", "row 3 1,1 ", "row 3 1,1 0", "row 3  ",
    "row 3  1,1", "row  3 1,1", " row 3 1,1", "row  1,1", "row 3 1, 1", "row 3 1 1", "row 3 1,1\n", "row\n3 1,1",
    "row 3\n1,1", "row\t3 1,1", "row3 1,1", "wish at", "wish at 0", "wish at 0 ", "wish at 0 1 2", "wish at 0 1 ",
    "wish at  0 1", "wish  at 0 1", "wish at 0  1", " wish at 0 1", "wish At 0 1", "wish is 0 1", "wish 0 1", "wish 0 1 at",
    "wish at 0 1; not 0 0", "wish at 0 1;", "wish none", "wish at 0 1\n", "wish  0 1", "nth 0 0", "nth 0 ", "nth  0",
    " nth 0", "nth none", "places 0 0", "places 0 ", "places  0", " places 0", "long 3 3", "long 3 ", "long  3", " long 3",
    " number 0 1", "number\n", "number 0 1\n", "number 0\n1", "number \n", "next\n0 1", "near 0 1\n", "Number 0 1",
    "number0 1", "\tnumber 0 1", "number\t0 1", "draw 6 ", "draw  6", " draw 6", "draw 6  1", "draw 6 1 ", "draw 6 1  2",
    "draw 6 x", "draw x", "draw 6 1 x", "draw 6 1,2", "draw 6\n", "draw 6 -1", "draw -6", "draw 6 1\n2", "answer",
    "by_moved", "sum", "table",
] + [head + " " for head in ALONE] + [" " + head for head in ALONE] + [head + " 0" for head in ALONE]


def text_of(numbers):
    return " ".join(str(number) for number in numbers)


def on(many, reach, *wishes):
    """A desk of so many things and a reach, with wishes."""
    desk = Desk()
    desk.answer("row " + str(many) + " " + reach_text(reach))
    for wish in wishes:
        desk.answer("wish " + text_of(wish))
    return desk


def told_by(desk):
    """What lines that change nothing tell of what the desk has."""
    asked = [desk.answer(head) for head in ("count", "first", "moved", "pairs", "rule")]
    things = len(asked[2].split(" ")) - 1
    return asked + [desk.answer("places " + str(thing)) for thing in range(things)]


class DeskCase(Case):
    def refuses_lines(self, error, desk, lines):
        """Each line is refused, again when it is asked again, and changes nothing."""
        ahead = told_by(desk)
        for line in lines:
            self.refuses(error, desk.answer, line)
            self.refuses(error, desk.answer, line)
        self.same(ahead, told_by(desk))


class ByHand(DeskCase):
    def test_at_first(self):
        desk = Desk()
        due = {
            "count": "1", "first": "none", "nth 0": "none", "free": "1", "number none": "0", "next none": "last",
            "near none": "0,0", "draw 2": "none: 0", "draw 2 1 0": "none: 0", "moved": "1", "pairs": "1", "rule": "1",
            "long 0": "1", "long 2000": "1",
        }
        for line, told in due.items():
            self.same(told, desk.answer(line))
        self.refuses_lines(NoNumber, desk, ["ring", "places 0", "number 0", "nth 1", "draw 1"])
        self.refuses_lines(NoWishes, desk, ["wish at 0 0", "wish not 0 0"])

    def test_three_things(self):
        desk = Desk()
        due = [
            ("row 3 1,1", "ok"), ("count", "3"), ("first", "0 1 2"), ("nth 2", "1 0 2"), ("places 1", "0 1 2"),
            ("wish not 1 1", "2"), ("count", "2"), ("first", "0 2 1"), ("nth 1", "1 0 2"), ("places 1", "0 2"),
            ("number 0 1 2", "0"), ("number 1 0 2", "2"), ("next 0 1 2", "0 2 1"), ("next 1 0 2", "last"),
            ("near 2 0 1", "2,1"), ("draw 2 1 0", "1 0 2: 2"), ("draw 2 1 0 1", "1 0 2: 2"), ("draw 2 1 1", "open 1 0"),
            ("draw 2", "open 1 0"), ("draw 3 2", "1 0 2: 1"), ("ring", "6"), ("moved", "1 0 2 0"), ("pairs", "1 2"),
            ("rule", "1 1"), ("long 0", "1"), ("long 3", "3"), ("long 100", "573147844013817084101"),
            ("wish at 1 1", "0"), ("count", "0"), ("first", "none there"), ("places 0", "none there"), ("free", "3"),
            ("wish at 0 1", "1"), ("places 2", "2"), ("row 2 1,0", "ok"), ("count", "1"), ("ring", "2"),
        ]
        for line, told in due:
            self.same(told, desk.answer(line))

    def test_a_rule_with_a_number_below_0(self):
        self.same("2 0 2 0 -1", on(5, (2, 2)).answer("rule"))

    def test_its_form(self):
        self.assertIn("answer", vars(Desk))
        self.assertEqual(["self", "line"], list(inspect.signature(Desk.answer).parameters))
        self.assertEqual([], list(inspect.signature(Desk).parameters))


class ByTheOtherModules(DeskCase):
    def test_row(self):
        desk = Desk()
        for reach in REACHES:
            for many in (0, 1, 2, 7, 39, 40):
                self.same("ok", desk.answer("row " + str(many) + " " + reach_text(reach)))
                self.same(str(count_orders(many, reach)), desk.answer("count"))
                self.same(text_of(range(many)) or "none", desk.answer("first"))

    def test_lines_with_wishes(self):
        lists = [[], [("not", 1, 1)], [("at", 0, 1), ("not", 3, 3)], [("at", 0, 1), ("at", 1, 1)], [("not", 2, 2)] * 3]
        for reach in REACHES:
            for many in (4, 5, 40):
                for wishes in lists:
                    self.meets(on(many, reach, *wishes), many, reach, wishes)

    def meets(self, desk, many, reach, wishes):
        count = count_wished(many, reach, wishes)
        self.same(str(count), desk.answer("count"))
        first = first_wished(many, reach, wishes)
        self.same("none there" if first is None else order_text(first), desk.answer("first"))
        for thing, places in enumerate(places_wished(many, reach, wishes)):
            self.same(text_of(places) or "none there", desk.answer("places " + str(thing)))
        for number in sorted({0, 1, count // 2, count - 1}):
            if 0 <= number < min(count, 10 ** 9):
                order = nth_wished(many, reach, wishes, number)
                self.same(order_text(order), desk.answer("nth " + str(number)))
        if count < 10 ** 9:
            self.refuses_lines(NoNumber, desk, ["nth " + str(count)])
        self.refuses_lines(NoNumber, desk, ["places " + str(many), "places 40", "places 999999999"])

    def test_wish_and_free_tell_how_many_meet_all(self):
        for reach in ((1, 1), (2, 1), (3, 3)):
            desk, wishes = on(6, reach), []
            for wish in (("not", 0, 0), ("not", 5, 5), ("not", 0, 0), ("at", 2, 2), ("at", 3, 2)):
                wishes.append(wish)
                self.same(str(count_wished(6, reach, wishes)), desk.answer("wish " + text_of(wish)))
            self.same("0", desk.answer("count"))
            self.same(str(count_orders(6, reach)), desk.answer("free"))
            self.same(str(count_orders(6, reach)), desk.answer("count"))

    def test_lines_with_an_order(self):
        for reach in REACHES:
            for many in range(5):
                # The wish is met by none, and is not looked at.
                desk = on(many, reach, *[("not", 0, place) for place in range(many)])
                kept = kept_orders(many, reach)
                for each in itertools.permutations(range(many)):
                    order = list(each)
                    text = order_text(order)
                    left, right = how_near(order)
                    self.same(str(left) + "," + str(right), desk.answer("near " + text))
                    if order in kept:
                        self.same(str(number_of(order, reach)), desk.answer("number " + text))
                        behind = next_order(order, reach)
                        due = "last" if behind is None else order_text(behind)
                        self.same(due, desk.answer("next " + text))
                    else:
                        self.refuses(NoKeep, desk.answer, "number " + text)
                        self.refuses(NoKeep, desk.answer, "next " + text)

    def test_near_may_be_above_3(self):
        self.same("39,39", on(40, (0, 0)).answer("near " + text_of(range(39, -1, -1))))
        self.same("4,1", on(5, (0, 0)).answer("near 4 0 1 2 3"))

    def test_draw(self):
        lists = [[], [0], [1], [1, 1, 1], [0, 1] * 20, [1, 0, 0, 1, 1, 1] * 12]
        for reach in REACHES:
            for many in (0, 1, 3, 6, 40):
                desk = on(many, reach, *[("not", 0, 0)] * min(many, 1))
                for sides in (2, 3, 1000):
                    for rolls in lists + [[sides - 1] * 7]:
                        told = drawn(many, reach, sides, rolls)
                        due = text_of(told)
                        if told[0] == "order":
                            due = order_text(told[1]) + ": " + str(told[2])
                        self.same(due, desk.answer("draw " + text_of([sides] + rolls)))

    def test_ring_moved_pairs_and_rule(self):
        for reach in REACHES:
            for many in (0, 1, 2, 7, 40):
                desk = on(many, reach, *[("not", 0, 0)] * min(many, 1))
                self.same(text_of(by_moved(many, reach)), desk.answer("moved"))
                self.same(text_of(by_pairs(many, reach)), desk.answer("pairs"))
                self.same(text_of(rule_of(reach)), desk.answer("rule"))
                if many > sum(reach):
                    self.same(str(ring_count(many, reach)), desk.answer("ring"))
                else:
                    self.refuses_lines(NoNumber, desk, ["ring"])

    def test_a_ring_of_the_fewest_things_and_of_too_few(self):
        for reach in REACHES:
            self.refuses(NoNumber, on(sum(reach), reach).answer, "ring")
            self.same(str(ring_count(sum(reach) + 1, reach)), on(sum(reach) + 1, reach).answer("ring"))

    def test_long(self):
        for reach in REACHES:
            desk = on(2, reach, ("not", 0, 0))
            for many in (0, 1, 40, 41, 999, 2000):
                self.same(str(far_count(many, reach)), desk.answer("long " + str(many)))
            self.refuses_lines(NoNumber, desk, ["long 2001", "long 999999999"])


class Keeps(DeskCase):
    def test_a_row_has_no_wishes(self):
        desk = on(3, (1, 1), ("at", 0, 1))
        self.same("1", desk.answer("count"))
        self.same("ok", desk.answer("row 3 1,1"))
        self.same("3", desk.answer("count"))

    def test_two_desks_side_by_side(self):
        one, other = Desk(), Desk()
        one.answer("row 3 1,1")
        self.same("1", other.answer("count"))
        other.answer("row 4 2,2")
        one.answer("wish at 0 1")
        self.same("1", one.answer("count"))
        self.same(str(count_orders(4, (2, 2))), other.answer("count"))
        other.answer("wish not 0 0")
        one.answer("free")
        self.same("3", one.answer("count"))
        self.same(str(count_wished(4, (2, 2), [("not", 0, 0)])), other.answer("count"))
        self.refuses(NoNumber, other.answer, "row 41 1,1")
        self.same(told_by(on(3, (1, 1))), told_by(one))
        self.same(told_by(on(4, (2, 2), ("not", 0, 0))), told_by(other))
        self.same("1", Desk().answer("count"))

    def test_asking_changes_nothing(self):
        desk = on(4, (2, 1), ("not", 0, 0))
        ahead = told_by(desk)
        for line in (
            "nth 0", "places 0", "number 0 1 2 3", "next 0 1 2 3", "near 3 2 1 0", "draw 6 1 2 3", "ring", "moved", "pairs",
            "rule", "long 9", "count", "first",
        ):
            self.same(desk.answer(line), desk.answer(line))
            self.same(ahead, told_by(desk))

    def test_sixty_wishes_and_a_sixty_first(self):
        desk = on(3, (1, 1))
        for time in range(60):
            self.same("2", desk.answer("wish not 1 1"))
        self.refuses_lines(NoWishes, desk, ["wish not 1 1", "wish at 0 0", "wish not 0 2"])
        self.same("2", desk.answer("count"))
        self.same("3", desk.answer("free"))
        self.same("2", desk.answer("wish not 1 1"))


class Refusals(DeskCase):
    def desks(self):
        return [Desk(), on(2, (1, 1)), on(3, (1, 1), ("not", 1, 1)), on(40, (3, 3), ("at", 0, 3), ("not", 39, 39))]

    def test_no_str(self):
        things = [thing for thing in NO_ORDERS + NO_REACHES if not isinstance(thing, str)]
        things += [b"count", ["count"], ("count",), {"count": 1}, {"count"}, ["row", "3", "1,1"], 0, [], ()]
        for desk in self.desks():
            self.refuses_lines(NoAsk, desk, things)

    def test_none_of_the_lines(self):
        for desk in self.desks():
            self.refuses_lines(NoAsk, desk, NO_LINES)

    def test_no_figures(self):
        lines = []
        for word in NO_FIGURES:
            lines += [head + " " + word for head in WITH_NUMBER]
            lines += ["row " + word + " 1,1", "row " + word + " x", "row " + word + " "]
            lines += ["wish at " + word + " 0", "wish not 0 " + word]
            lines += ["draw " + word, "draw " + word + " 0", "draw 6 " + word, "draw 6 0 " + word, "draw 0 " + word + " 9"]
        for desk in self.desks():
            self.refuses_lines(NoAsk, desk, lines)

    def test_nine_figures_and_ten(self):
        desk = on(3, (1, 1), ("not", 1, 1))
        nine, ten = "999999999", "1000000000"
        lines = ["row {} 1,1", "nth {}", "places {}", "long {}", "draw {}", "draw {} 0"]
        self.refuses_lines(NoNumber, desk, [line.format(nine) for line in lines])
        self.refuses_lines(NoWishes, desk, ["wish at " + nine + " 0", "wish not 0 " + nine])
        self.refuses_lines(NoRolls, desk, ["draw 6 " + nine])
        self.refuses_lines(NoAsk, desk, [line.format(ten) for line in lines])
        self.refuses_lines(NoAsk, desk, ["wish at " + ten + " 0", "wish not 0 " + ten, "draw 6 " + ten])

    def test_an_order_that_writes_none(self):
        texts = [text for text in NO_ORDER_TEXTS if "\n" not in text]
        texts += ["", " ", "  ", "0 1 2 ", " 0 1 2", "0  1 2", "x", "\t", "1,1", "0 1 2 " * 2, "none none", "0\r", "9" * 600]
        texts += [" ".join(str(thing) for thing in range(41))] + OTHER_FIGURES
        for desk in self.desks():
            for head in WITH_ORDER:
                self.refuses_lines(NoText, desk, [head + " " + text for text in texts])

    def test_a_reach_that_writes_none(self):
        texts = [text for text in NO_REACH_TEXTS if "\n" not in text and " " not in text] + ["", "none", "0", "x", "~"]
        for desk in self.desks():
            for many in ("0", "3", "40", "41", "999999999"):
                self.refuses_lines(NoText, desk, ["row " + many + " " + text for text in texts])

    def test_without_the_blank_it_is_no_such_line(self):
        for desk in self.desks():
            self.refuses_lines(NoAsk, desk, WITH_ORDER + ["row 3", "row 0", "row 41"])
            self.refuses_lines(NoText, desk, [head + " " for head in WITH_ORDER] + ["row 3 ", "row 0 ", "row 41 "])

    def test_more_than_forty_things(self):
        for desk in self.desks():
            self.refuses_lines(NoNumber, desk, ["row 41 1,1", "row 42 0,0", "row 100 3,3", "row 999999999 1,1"])
            self.same("ok", desk.answer("row 40 1,1"))

    def test_a_wish_that_cannot_be(self):
        desk = on(3, (1, 1), ("not", 1, 1))
        lines = ["wish at 3 0", "wish at 0 3", "wish not 3 0", "wish not 0 3", "wish at 3 3", "wish not 40 40"]
        self.refuses_lines(NoWishes, desk, lines)
        self.same("0", desk.answer("wish at 0 2"))

    def test_an_order_of_another_number_of_things(self):
        for many in range(5):
            desk = on(many, (1, 1))
            for other in range(8):
                # The latter one does not keep the reach where there are three things or more.
                for order in (list(range(other)), list(range(other - 1, -1, -1))):
                    if other != many:
                        lines = [head + " " + order_text(order) for head in WITH_ORDER]
                        self.refuses_lines(NoNumber, desk, lines)
        self.refuses_lines(NoNumber, on(39, (1, 1)), ["near " + text_of(range(40)), "next none"])

    def test_an_order_that_does_not_keep_the_reach(self):
        desk = on(3, (1, 1), ("not", 1, 1))
        self.refuses_lines(NoKeep, desk, ["number 2 0 1", "next 2 0 1", "number 2 1 0", "next 1 2 0"])
        self.same("2,1", desk.answer("near 2 0 1"))

    def test_numbers_that_there_are_not(self):
        desk = on(3, (1, 1), ("not", 1, 1))
        self.refuses_lines(NoNumber, desk, ["nth 2", "nth 3", "places 3", "places 40", "long 2001"])
        self.refuses_lines(NoNumber, on(3, (1, 1), ("at", 0, 2)), ["nth 0", "nth 1", "places 3"])

    def test_draw(self):
        desk = on(3, (1, 1), ("not", 1, 1))
        self.refuses_lines(NoNumber, desk, ["draw 0", "draw 1", "draw 1001", "draw 1 5", "draw 0 0", "draw 1001 1001"])
        self.refuses_lines(NoRolls, desk, ["draw 2 2", "draw 2 0 2", "draw 1000 1000", "draw 2 1 0 2", "draw 6 1 2 6"])
        # Rolls that would not be taken are looked at as well.
        self.refuses_lines(NoRolls, on(0, (1, 1)), ["draw 2 2", "draw 2 0 0 2"])

    def test_the_one_told_first_goes_first(self):
        desk = on(3, (1, 1))
        self.refuses_lines(NoAsk, desk, ["row x x", "row 41 x ", "row 01 x", "wish is 9 9", "draw 1 x", "draw 1001 7 "])
        self.refuses_lines(NoAsk, desk, ["number x\n", "row 41 x\n", "next 0 1\n", "places 9\n"])
        self.refuses_lines(NoText, desk, ["row 41 x", "row 41 4,4", "number 3 2 1", "next 0 1 2 3 3", "near 0 0"])
        self.refuses_lines(NoNumber, desk, ["number 3 2 1 0", "next 1 0", "draw 1 9"])

    def test_each_line_of_words_is_answered_or_refused_as_told(self):
        # Whatever words stand behind one another, nothing but a refusal of the document's is raised.
        words = ["row", "wish", "at", "nth", "number", "draw", "count", "0", "2", "1,1", ""]
        for length in (1, 2, 3, 4):
            for chosen in itertools.product(words, repeat=length):
                if length < 4 or chosen[0] in ("wish", "draw", "row"):
                    self.answers_or_refuses(" ".join(chosen))

    def answers_or_refuses(self, line):
        desk = on(2, (1, 1))
        try:
            self.assertIs(str, desk.answer(line).__class__)
        except PlaceError:
            self.same("2", desk.answer("count"))
            self.same("1 1", desk.answer("rule"))


if __name__ == "__main__":
    unittest.main()
