"""Texts that show a walk of a table."""

from saidearly.errors import NotAWalk
from saidearly.walks import misstep, shortest_walk, texts_along


def texts_of(table, walk):
    """Return two texts that take a walk from stand 0."""
    arrows = table.arrows()
    at = misstep(arrows, walk, 0)
    if at is not None:
        raise NotAWalk(at)
    return texts_along([stand[3] for stand in table.stands()], [arrows[number] for number in walk])


def texts_round(table, ring, rounds):
    """Return two texts that go to a ring by a shortest walk, and then so often round it."""
    arrows = table.arrows()
    return texts_of(table, shortest_walk(arrows, len(table.stands()), arrows[ring[0]][0]) + ring * rounds)
