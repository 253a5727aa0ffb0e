"""nearplace/papers.py: points 2, 3, 12 and 13."""

import unittest

from nearplace.errors import NoNumber, NoReach, NoWord
from nearplace.papers import bound_says, paper_of, says
from nearplace.stands import all_stands, count_orders, steps_of, ways_between
from tests.support import (
    ANYTHING, NO_NUMBERS, NO_REACHES, REACHES, Case, EqualToAll, EqualToNone, count_by_things, kept_orders,
)

WORDS = ["most", "least"]
NO_WORDS = ANYTHING + [
    0, 1, "Most", "LEAST", "most ", " least", "mos", "mostleast", "most\n", b"most", b"least", ["most"], ("least",),
    ("most", "least"), {"most"}, {"most": 1}, "at", "just", "m",
]


def first_of(reach):
    return tuple(range(reach[0]))


def sum_behind(paper, reach, place, stand):
    return sum(paper[(place + 1, behind)] for put, behind in steps_of(reach, stand))


def is_let_by(many, reach, word, paper):
    """By the words of the document, of a dict from all spots to whole numbers from 0 on."""
    first = first_of(reach)
    for (place, stand), number in paper.items():
        if place < many:
            due = sum_behind(paper, reach, place, stand)
            right = {"just": number == due, "most": number >= due, "least": number <= due}[word]
        elif stand == first:
            right = {"just": number == 1, "most": number >= 1, "least": number <= 1}[word]
        else:
            right = word == "most" or number == 0
        if not right:
            return False
    return True


def with_number(paper, spot, number):
    changed = dict(paper)
    changed[spot] = number
    return changed


def loose_paper(many, reach, word, put_to):
    """A paper that keeps to the word: at each spot so much more, or less, than is due."""
    paper = {}
    for place in range(many, -1, -1):
        for at, stand in enumerate(all_stands(reach)):
            due = sum_behind(paper, reach, place, stand) if place < many else int(stand == first_of(reach))
            more = put_to * ((place + at) % 3)
            paper[(place, stand)] = due + more if word == "most" else max(0, due - more)
    return paper


class PaperOf(Case):
    def test_all_spots_and_their_ways(self):
        for reach in REACHES:
            for many in (0, 1, 2, 5, 40):
                paper = paper_of(many, reach)
                stands = all_stands(reach)
                self.assertEqual((many + 1) * len(stands), len(paper))
                due = {
                    (place, stand): ways_between(reach, stand, first_of(reach), many - place)
                    for place in range(max(0, many - 6), many + 1) for stand in stands
                }
                self.same(due, {spot: paper[spot] for spot in due})
                self.same(sorted((place, stand) for place in range(many + 1) for stand in stands), sorted(paper))

    def test_it_is_let_by(self):
        for reach in REACHES:
            for many in range(41):
                paper = paper_of(many, reach)
                self.assertTrue(is_let_by(many, reach, "just", paper))
                self.same(count_by_things(many, reach), says(many, reach, paper))

    def test_some_by_hand(self):
        self.same({(0, ()): 1}, paper_of(0, (0, 0)))
        self.same({(0, ()): 1, (1, ()): 1}, paper_of(1, (0, 3)))
        self.same({(0, (0,)): 1, (0, (-1,)): 0}, paper_of(0, (1, 1)))
        due = {(0, (-1,)): 1, (0, (0,)): 2, (1, (-1,)): 1, (1, (0,)): 1, (2, (-1,)): 0, (2, (0,)): 1}
        self.same(due, paper_of(2, (1, 1)))
        self.same(2, says(2, (1, 1), due))


class Says(Case):
    def test_how_many_orders_there_are(self):
        for reach in REACHES:
            for many in range(7):
                self.same(len(kept_orders(many, reach)), says(many, reach, paper_of(many, reach)))

    def test_a_number_raised_or_lowered_at_a_spot(self):
        for reach in REACHES:
            for many in (0, 1, 4):
                paper = paper_of(many, reach)
                for spot in paper:
                    for number in (paper[spot] + 1, paper[spot] - 1, paper[spot] + 10 ** 39, 0):
                        if number != paper[spot]:
                            self.assertIsNone(says(many, reach, with_number(paper, spot, number)))

    def test_a_number_raised_or_lowered_on_a_great_paper(self):
        for reach in ((1, 1), (3, 3)):
            paper = paper_of(40, reach)
            for spot in sorted(paper)[::7] + [(0, first_of(reach)), (40, first_of(reach))]:
                self.assertIsNone(says(40, reach, with_number(paper, spot, paper[spot] + 1)))
                self.assertIsNone(says(40, reach, with_number(paper, spot, paper[spot] - 1)))

    def test_two_wrongs_do_not_make_a_right(self):
        paper = paper_of(3, (1, 1))
        twice = {spot: 2 * number for spot, number in paper.items()}
        self.assertIsNone(says(3, (1, 1), twice))
        self.assertIsNone(says(3, (1, 1), {spot: 0 for spot in paper}))
        # All sums hold here, but behind the last place another stand counts.
        paper = {(0, (-1,)): 0, (0, (0,)): 1, (1, (-1,)): 1, (1, (0,)): 0}
        self.assertIsNone(says(1, (1, 1), paper))
        paper = {(0, (-1,)): 1, (0, (0,)): 2, (1, (-1,)): 1, (1, (0,)): 1}
        self.assertIsNone(says(1, (1, 1), paper))

    def test_the_paper_of_another_row_or_reach(self):
        for reach in REACHES:
            for many in (0, 3, 39):
                self.assertIsNone(says(many + 1, reach, paper_of(many, reach)))
                self.assertIsNone(says(many, reach, paper_of(many + 1, reach)))
        self.assertIsNone(says(3, (1, 2), paper_of(3, (2, 1))))
        # Without a side to go to there is one stand, the empty one, whatever the other side is.
        self.same(1, says(3, (0, 2), paper_of(3, (0, 1))))


class Bounds(Case):
    def test_the_just_paper_bounds_on_both_sides(self):
        for reach in REACHES:
            for many in (0, 1, 2, 7, 40):
                for word in WORDS:
                    self.same(count_orders(many, reach), bound_says(many, reach, word, paper_of(many, reach)))

    def test_loose_papers(self):
        for reach in REACHES:
            for many in (0, 1, 3, 6, 20, 40):
                for put_to in (1, 4):
                    count = count_orders(many, reach)
                    most = loose_paper(many, reach, "most", put_to)
                    least = loose_paper(many, reach, "least", put_to)
                    self.same(most[(0, first_of(reach))], bound_says(many, reach, "most", most))
                    self.same(least[(0, first_of(reach))], bound_says(many, reach, "least", least))
                    self.assertLessEqual(bound_says(many, reach, "least", least), count)
                    self.assertGreaterEqual(bound_says(many, reach, "most", most), count)

    def test_a_number_raised_or_lowered_at_a_spot(self):
        for reach in REACHES:
            for many in (0, 1, 3):
                for word in WORDS:
                    for put_to in (0, 1):
                        paper = loose_paper(many, reach, word, put_to)
                        for spot in paper:
                            for change in (-2, -1, 1, 2):
                                self.holds(many, reach, word, with_number(paper, spot, paper[spot] + change))

    def holds(self, many, reach, word, paper):
        numbers = all(number >= 0 for number in paper.values())
        due = paper[(0, first_of(reach))] if numbers and is_let_by(many, reach, word, paper) else None
        self.same(due, bound_says(many, reach, word, paper))

    def test_some_by_hand(self):
        for number, most, least in ((0, None, 0), (1, 1, 1), (2, 2, None)):
            self.same(most, bound_says(0, (0, 0), "most", {(0, ()): number}))
            self.same(least, bound_says(0, (0, 0), "least", {(0, ()): number}))
        nothing = {spot: 0 for spot in paper_of(5, (2, 2))}
        self.same(0, bound_says(5, (2, 2), "least", nothing))
        self.assertIsNone(bound_says(5, (2, 2), "most", nothing))
        much = {spot: 10 ** (39 - spot[0]) for spot in nothing}
        self.same(10 ** 39, bound_says(5, (2, 2), "most", much))
        self.assertIsNone(bound_says(5, (2, 2), "least", much))

    def test_the_other_stands_behind_the_last_place(self):
        paper = paper_of(0, (1, 1))
        self.same(1, bound_says(0, (1, 1), "most", with_number(paper, (0, (-1,)), 7)))
        self.assertIsNone(bound_says(0, (1, 1), "least", with_number(paper, (0, (-1,)), 7)))
        self.assertIsNone(says(0, (1, 1), with_number(paper, (0, (-1,)), 7)))


class NoPapers(Case):
    """What is none says nothing, whatever it is."""

    def says_nothing(self, many, reach, thing):
        self.assertIsNone(says(many, reach, thing))
        for word in WORDS:
            self.assertIsNone(bound_says(many, reach, word, thing))

    def test_of_anything(self):
        more = [0, 1, [], (), [()], {None: None}, {(0, ()): 1}, {"0": 1}, [((0, ()), 1)], (((0, ()), 1),), "none"]
        for thing in ANYTHING + more:
            for many, reach in ((3, (1, 1)), (0, (1, 1)), (1, (0, 0)), (40, (3, 3))):
                self.says_nothing(many, reach, thing)
        self.says_nothing(2, (1, 1), sorted(paper_of(2, (1, 1)).items()))
        self.says_nothing(2, (1, 1), [paper_of(2, (1, 1))])

    def test_a_spot_too_few(self):
        for reach in REACHES:
            for many in (0, 2):
                paper = paper_of(many, reach)
                for spot in paper:
                    self.says_nothing(many, reach, {other: paper[other] for other in paper if other != spot})
        great = paper_of(40, (3, 3))
        del great[(17, (-2, 0, 2))]
        self.says_nothing(40, (3, 3), great)

    def test_a_spot_too_many(self):
        more = [
            (3, (0,)), (-1, (0,)), (0, ()), (0, (1,)), (0, (0, 0)), (0,), (), 0, None, "0", (0, 0), ((0,), 0),
            (0, (0,), 0), (0, (-2,)), EqualToAll(), b"0", frozenset(), ("0", (0,)), (0, ("0",)), (0, (None,)),
            (2, ((0,),)),
        ]
        paper = paper_of(2, (1, 1))
        for key in more:
            self.says_nothing(2, (1, 1), {**paper, key: 0})
            self.says_nothing(2, (1, 1), {key: 1, **paper})
            # One in the place of a spot.
            for spot in paper:
                changed = {other: paper[other] for other in paper if other != spot}
                changed[key] = paper[spot]
                self.says_nothing(2, (1, 1), changed)
        self.says_nothing(40, (3, 3), {**paper_of(40, (3, 3)), (41, (0, 1, 2)): 0, (-1, (0, 1, 2)): 0})

    def test_what_is_equal_to_a_spot_stands_for_it(self):
        for reach in REACHES:
            paper = paper_of(3, reach)
            equal = {
                (
                    {0: False, 1: True}.get(place, place),
                    tuple({0: False, 1: True}.get(item, item) for item in stand),
                ): number
                for (place, stand), number in paper.items()
            }
            self.assertEqual(paper, equal)
            self.same(count_orders(3, reach), says(3, reach, equal))
            for word in WORDS:
                self.same(count_orders(3, reach), bound_says(3, reach, word, equal))

    def test_no_whole_numbers_from_0_on(self):
        wrong = [None, "1", b"1", [1], (1,), {}, {1}, -1, -(10 ** 39), EqualToAll(), EqualToNone(), int, [], ()]
        for reach in ((0, 0), (1, 1), (2, 1)):
            for many in (0, 1, 3):
                paper = paper_of(many, reach)
                for spot in paper:
                    for number in wrong:
                        self.says_nothing(many, reach, with_number(paper, spot, number))

    def test_truths_for_numbers(self):
        for reach in REACHES:
            for many in (0, 1, 3):
                paper = paper_of(many, reach)
                for spot in paper:
                    if paper[spot] in (0, 1):
                        self.says_nothing(many, reach, with_number(paper, spot, paper[spot] == 1))


class Refusals(Case):
    def test_no_reach_first(self):
        for thing in NO_REACHES:
            self.refuses(NoReach, says, 3, thing, {})
            self.refuses(NoReach, says, 41, thing, None)
            self.refuses(NoReach, paper_of, 3, thing)
            self.refuses(NoReach, paper_of, None, thing)
            self.refuses(NoReach, bound_says, 3, thing, "most", {})
            self.refuses(NoReach, bound_says, 41, thing, "just", None)

    def test_no_number(self):
        for thing in NO_NUMBERS:
            for reach in ((0, 0), (1, 1), (3, 3)):
                self.refuses(NoNumber, says, thing, reach, {})
                self.refuses(NoNumber, says, thing, reach, None)
                self.refuses(NoNumber, paper_of, thing, reach)
                for word in ("most", "least", "just", None):
                    self.refuses(NoNumber, bound_says, thing, reach, word, {})

    def test_no_word(self):
        for word in NO_WORDS:
            for thing in ({}, None, paper_of(2, (1, 1))):
                self.refuses(NoWord, bound_says, 2, (1, 1), word, thing)
                self.refuses(NoWord, bound_says, 0, (0, 0), word, thing)


class DictsOfTheAsker(Case):
    def test_nothing_handed_in_is_changed_and_nothing_told_is_kept(self):
        for reach in REACHES:
            for many in (0, 1, 4):
                self.stays(paper_of, many, reach)
                self.stays(says, many, reach, paper_of(many, reach))
                self.stays(says, many, reach, {(0, ()): [1]})
                for word in WORDS:
                    self.stays(bound_says, many, reach, word, paper_of(many, reach))
        self.assertIsNot(paper_of(2, (1, 1)), paper_of(2, (1, 1)))


if __name__ == "__main__":
    unittest.main()
