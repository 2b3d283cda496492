"""What is free, possible or sure to be said."""

from saidearly.beginnings import ways_out
from saidearly.errors import NeedsNoPromise
from saidearly.extras import rim_extras
from saidearly.sayings import check_saying
from saidearly.standings import echo


def is_free(standing, saying):
    """Tell whether a saying costs nothing, whatever comes."""
    check_saying(saying, standing)
    return not _worths_not_free(standing, saying)


def is_possible(standing, saying):
    """Tell whether a saying costs nothing under some going-on."""
    return shown_possible(standing, saying) is not None


def is_sure(standing, saying):
    """Tell whether all cheapest scripts hold a saying, whatever comes."""
    return shown_unsure(standing, saying) is None


def shown_possible(standing, saying):
    """Return an echo and a cheapest script that holds a saying, or None."""
    check_saying(saying, standing)
    return _shown(standing, saying, True)


def shown_unsure(standing, saying):
    """Return an echo and a cheapest script that does not hold a saying, or None."""
    check_saying(saying, standing)
    return _shown(standing, saying, False)


def free_below(standing, saying):
    """Return the smallest D of a rim point whose echo has an extra that is not 0, or None."""
    check_saying(saying, standing)
    if standing.promised() != ("none",):
        raise NeedsNoPromise()
    worths = _worths_not_free(standing, saying)
    if not worths:
        return None
    return min(worths)


def _worths_not_free(standing, saying):
    """Return the D of the rim points whose echoes have an extra that is not 0."""
    return [worth for extra, worth, _ in rim_extras(standing, saying) if extra != 0]


def _shown(standing, saying, wanted):
    """Return an echo and a cheapest script that holds a saying, or does not, as is wanted; None without any.

    A cheapest script of any grown texts leaves the heads at a rim point. The echo of this point lets it keep all
    letters behind them, at the same price up to there and with the same steps within the heads.
    """
    ways = ways_out(standing, saying)
    for point, worth in standing.rim():
        for is_held, price, script in ways[point]:
            if price == worth and is_held == wanted:
                going_on = echo(standing, point)
                return going_on, script + "k" * (len(going_on[0]) + len(going_on[1]))
    return None
