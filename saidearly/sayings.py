"""Sayings: conditions on the steps of a script within the heads."""

from saidearly.errors import NoSaying, NoSuchLetter
from saidearly.letters import is_integer, is_script, is_side
from saidearly.scripts import first_undone, kept

MOST_ATOMS = 4
MOST_WORDS = 8


def is_saying(thing):
    """Tell whether any value is a saying."""
    # What is not yet looked at, each with whether it stands within a "not"; it never grows deep or long.
    waiting = [(thing, False)]
    many_atoms = 0
    many_words = 0
    while waiting:
        part, denied = waiting.pop()
        inner = _inner_of(part)
        if inner:
            many_words += 1
            waiting.extend([(s, denied or part[0] == "not") for s in inner])
        elif _is_atom(part) and not (denied and part[0] == "begins"):
            many_atoms += 1
        else:
            return False
        if many_atoms > MOST_ATOMS or many_words > MOST_WORDS:
            return False
    return True


def atoms(saying):
    """Return the different atoms of a saying in the order in which they first stand in it."""
    if not is_saying(saying):
        raise NoSaying(saying)
    found = []
    for atom in _all_atoms(saying):
        if atom not in found:
            found.append(atom)
    return found


def holds(saying, standing, script):
    """Tell whether a script, which need not fit any texts, holds a saying about the heads of a standing."""
    check_saying(saying, standing)
    left = standing.head("left")
    right = standing.head("right")
    return is_held_by(saying, {atom: _is_atom_held(atom, left, right, script) for atom in atoms(saying)})


def is_held_by(saying, truths):
    """Tell whether a saying is held where its atoms are so, each as truths has it."""
    inner = _inner_of(saying)
    if not inner:
        return truths[saying]
    held = [is_held_by(part, truths) for part in inner]
    if saying[0] == "not":
        return not held[0]
    if saying[0] == "and":
        return all(held)
    return any(held)


def check_saying(saying, standing):
    """Refuse what is no saying, or names a letter that the heads lack."""
    for atom in atoms(saying):
        for side, number in _letters_of(atom):
            if number >= len(standing.head(side)):
                raise NoSuchLetter(side, number)


def _inner_of(thing):
    """Return the two parts of an "and" or "or", the one of a "not"; an empty list for all else."""
    if isinstance(thing, tuple) and len(thing) == 2 and thing[0] == "not":
        return [thing[1]]
    if isinstance(thing, tuple) and len(thing) == 3 and thing[0] in ("and", "or"):
        return [thing[1], thing[2]]
    return []


def _is_atom(thing):
    if not isinstance(thing, tuple):
        return False
    if len(thing) == 2:
        return thing[0] == "begins" and is_script(thing[1])
    if len(thing) != 3 or not _is_number(thing[2]):
        return False
    if thing[0] == "kept":
        return _is_number(thing[1])
    return thing[0] == "alone" and is_side(thing[1])


def _is_number(thing):
    return is_integer(thing) and thing >= 0


def _all_atoms(saying):
    """Return the atoms of a saying, each as often as it stands, from left to right."""
    inner = _inner_of(saying)
    if not inner:
        return [saying]
    return [atom for part in inner for atom in _all_atoms(part)]


def _letters_of(atom):
    """Return the tuples (side, number) of the letters that an atom names, in order."""
    if atom[0] == "kept":
        return [("left", atom[1]), ("right", atom[2])]
    if atom[0] == "alone":
        return [(atom[1], atom[2])]
    return []


def _is_atom_held(atom, left, right, script):
    if atom[0] == "begins":
        return script.startswith(atom[1]) and first_undone(atom[1], left, right) is None
    if atom[0] == "kept":
        return (atom[1], atom[2]) in kept(script)
    if atom[1] == "left":
        return not [j for i, j in kept(script) if i == atom[2] and j < len(right)]
    return not [i for i, j in kept(script) if j == atom[2] and i < len(left)]
