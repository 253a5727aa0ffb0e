"""Papers that show how many orders there are, and papers of bounds."""

from nearplace.errors import NoWord
from nearplace.orders import check_reach, is_whole
from nearplace.stands import check_many, end_row, first_stand, row_ahead, steps_table
from nearplace.walks import row_walks

MOST = "most"
LEAST = "least"


def check_word(word):
    if not isinstance(word, str) or word not in (MOST, LEAST):
        raise NoWord("the word is none of most and least")


def is_paper(many, table, thing):
    """Whether it is a dict from all spots and from nothing else to whole numbers from 0 on."""
    if not isinstance(thing, dict) or len(thing) != (many + 1) * len(table):
        return False
    spots = [(place, stand) for place in range(many + 1) for stand in table]
    return all(spot in thing and is_whole(thing[spot]) and thing[spot] >= 0 for spot in spots)


def bounds(word, number, due):
    return number >= due if word == MOST else number <= due


def row_bounds(word, row, due):
    return all(bounds(word, row[stand], due[stand]) for stand in row)


def said_by(many, reach, words, thing):
    """What a thing says where it is a paper that is let by with each of the words, else None."""
    first = first_stand(reach)
    table = steps_table(reach, first)
    if not is_paper(many, table, thing):
        return None
    rows = [{stand: thing[(place, stand)] for stand in table} for place in range(many + 1)]
    dues = [row_ahead(table, row) for row in rows[1:]] + [end_row(table, first)]
    if all(row_bounds(word, row, due) for word in words for row, due in zip(rows, dues)):
        return rows[0][first]
    return None


def says(many, reach, thing):
    check_reach(reach)
    check_many(many)
    # What is no less and no more than is due is just what is due.
    return said_by(many, reach, (MOST, LEAST), thing)


def paper_of(many, reach):
    check_reach(reach)
    check_many(many)
    rows = row_walks(many, reach).rows
    return {(place, stand): row[stand] for place, row in enumerate(rows) for stand in row}


def bound_says(many, reach, word, thing):
    check_reach(reach)
    check_many(many)
    check_word(word)
    return said_by(many, reach, (word,), thing)
