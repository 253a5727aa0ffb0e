"""Walks: ways to fill places one behind the other that lead from a stand to the same stand again.

Steps rise by what they put, so going by steps goes through the walks in order
as the lists of their things are.
"""

from nearplace.stands import end_row, first_stand, steps_table, ways_rows


def step_with(steps, row, number):
    """The step that leads to the number, and the number among the walks behind that step."""
    at = 0
    while number >= row[steps[at][1]]:
        number -= row[steps[at][1]]
        at += 1
    return steps[at], number


class Walks:
    """The walks from the start to the start that take at each place a step of that place's table."""

    def __init__(self, start, table, tables):
        self.start = start
        self.tables = tables
        # Row p has for each stand how many walks go on from it when place p is to be filled.
        self.rows = ways_rows(tables, end_row(table, start))

    def how_many(self):
        return self.rows[0][self.start]

    def things_of(self, number):
        """The things of the walk with the number, place by place."""
        things = []
        stand = self.start
        for place, table in enumerate(self.tables):
            step, number = step_with(table[stand], self.rows[place + 1], number)
            put, stand = step
            things.append(place + put)
        return things

    def number_among(self, things):
        """The number of the walk with these things."""
        number = 0
        stand = self.start
        for place, thing in enumerate(things):
            steps = self.tables[place][stand]
            row = self.rows[place + 1]
            number += sum([row[behind] for put, behind in steps if place + put < thing])
            stand = dict(steps)[thing - place]
        return number

    def counts_at(self):
        """For each thing, place by place, how many walks have it there; all things are among the places' numbers."""
        counts = [[0] * len(self.tables) for table in self.tables]
        ahead = {self.start: 1}
        for place, table in enumerate(self.tables):
            behind_row = {}
            for stand in ahead:
                for put, behind in table[stand]:
                    ways = ahead[stand] * self.rows[place + 1][behind]
                    if ways:
                        counts[place + put][place] += ways
                        behind_row[behind] = behind_row.get(behind, 0) + ahead[stand]
            ahead = behind_row
        return counts


def row_walks(many, reach):
    """The walks whose things are the orders of so many things that keep the reach."""
    first = first_stand(reach)
    table = steps_table(reach, first)
    return Walks(first, table, [table] * many)
