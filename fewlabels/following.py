"""What follows from the units of a set of quantities: which others are known, and the chains that show it."""

from fewlabels.checks import is_name, is_whole
from fewlabels.errors import BadChain, BadSet
from fewlabels.lattices import Lattice
from fewlabels.systems import check_quantity, check_system, columns, free_names


def known(system, names):
    """The list of the quantities that are known from a set, in order."""
    check_system(system)
    check_set(system, names)
    moves = changes(system, names)
    return [name for name in system.names if all([move[name] == 0 for move in moves])]


def is_enough(system, names):
    """Whether all quantities are known from a set."""
    return known(system, names) == system.names


def is_chain(system, names, name, chain):
    """Whether a pair is a chain for a quantity from a set."""
    check_system(system)
    check_set(system, names)
    check_quantity(system, name)
    check_chain(chain)
    followers = other_names(system, names)
    if name not in followers:
        return chain == (1, ())
    times, integers = chain
    balances = system.balances()
    if times < 1 or len(integers) != len(balances):
        return False
    totals = [dot(integers, column) for column in columns(balances, followers)]
    return totals == [times if follower == name else 0 for follower in followers]


def check_set(system, thing):
    """Refuse what is not a set of quantities of the system."""
    if not isinstance(thing, tuple) or not all([is_name(name) for name in thing]):
        raise BadSet("not a tuple of names")
    if list(thing) != [name for name in free_names(system) if name in thing]:
        raise BadSet("not different quantities without labels, in the order of the system")


def check_chain(thing):
    """Refuse what is not a pair of an integer and a tuple of integers."""
    if not isinstance(thing, tuple) or len(thing) != 2 or not is_whole(thing[0]):
        raise BadChain("not a pair that begins with an integer")
    if not isinstance(thing[1], tuple) or not all([is_whole(integer) for integer in thing[1]]):
        raise BadChain("the second part is not a tuple of integers")


def other_names(system, names):
    """The quantities that are neither in a set nor labelled, in order."""
    return [name for name in free_names(system) if name not in names]


def dot(integers, others):
    """The sum of the products of the integers in the same places."""
    return sum([mine * its for mine, its in zip(integers, others)])


def changes(system, names):
    """Changes of exponents, in any one base unit, that keep what fits fitting and leave a set as it is.

    Each is a dict from all quantities to integers; every other such change is a sum of integer multiples of these.
    """
    balances = system.balances()
    followers = other_names(system, names)
    found = []
    for relation in Lattice(columns(balances, followers), len(balances)).relations:
        move = {name: 0 for name in system.names}
        move.update(dict(zip(followers, relation)))
        found.append(move)
    return found


def chain_from(system, names, name):
    """A chain for a quantity from a set from which it is known."""
    followers = other_names(system, names)
    if name not in followers:
        return (1, ())
    rows = [[balance[follower] for follower in followers] for balance in system.balances()]
    target = [1 if follower == name else 0 for follower in followers]
    times, integers = Lattice(rows, len(followers)).combination(target)
    return (times, tuple(integers))
