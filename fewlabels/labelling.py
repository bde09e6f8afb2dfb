"""The cheapest sets of quantities to label, with what shows that they are."""

from fewlabels.following import chain_from, changes, check_set, is_chain, is_enough
from fewlabels.systems import check_system, found_fit, free_names
from fewlabels.units import Unit


class Labelling:
    """A cheapest set that is enough, a chain from it for each quantity, and doubts against all cheaper sets."""

    def __init__(self, labelled, chains, doubts):
        self.labelled = labelled
        self.chains = dict(chains)
        self.doubts = list(doubts)

    def __eq__(self, other):
        if not isinstance(other, Labelling):
            return False
        return self.labelled == other.labelled and self.chains == other.chains and self.doubts == other.doubts

    def shows(self, system):
        """Whether the set is enough and of the least cost, and chains and doubts show it."""
        check_system(system)
        if not all([is_chain(system, self.labelled, name, self.chains[name]) for name in system.names]):
            return False
        if not all([is_doubt(system, one, other) for one, other in self.doubts]):
            return False
        differences = [differing(system, one, other) for one, other in self.doubts]
        cheaper = cheaper_sets(system, set_cost(system, self.labelled))
        return not any([settles(names, differences) for names in cheaper])


def set_cost(system, names):
    """The cost of labelling a set."""
    check_system(system)
    check_set(system, names)
    return sum([system.cost(name) for name in names])


def cheapest(system):
    """The Labelling with the first one of the cheapest sets that are enough."""
    check_system(system)
    enough = [names for names in sets_of(free_names(system)) if is_enough(system, names)]
    least = min([set_cost(system, names) for names in enough])
    labelled = [names for names in enough if set_cost(system, names) == least][0]
    chains = {name: chain_from(system, labelled, name) for name in system.names}
    return Labelling(labelled, chains, doubts_against(system, cheaper_sets(system, least)))


def sets_of(names):
    """All sets of these quantities, in the order of their lists of indices."""
    if not names:
        return [()]
    later = sets_of(names[1:])
    return [()] + [(names[0], *others) for others in later] + later[1:]


def cheaper_sets(system, cost):
    """The sets of quantities without labels that cost less."""
    return [names for names in sets_of(free_names(system)) if set_cost(system, names) < cost]


def differing(system, one, other):
    """The tuple of the quantities to which two assignments give different units."""
    return tuple([name for name in system.names if one[name] != other[name]])


def is_doubt(system, one, other):
    """Whether two assignments differ and both fit."""
    return system.fits(one) and system.fits(other) and differing(system, one, other) != ()


def settles(names, differences):
    """Whether a set contains a quantity of each of the differences."""
    return all([any([name in names for name in difference]) for difference in differences])


def doubts_against(system, sets):
    """Doubts such that for each of these sets, none of which is enough, one doubt has no difference in it."""
    moves = {}
    for names in sets:
        move = changes(system, names)[0]
        moves[tuple([name for name in move if move[name] != 0])] = move
    return [doubt_of(system, moves[difference]) for difference in needed(list(moves), sets)]


def needed(differences, sets):
    """The differences without each one that can be left out while none of the sets settles the rest."""
    kept = differences
    for difference in differences:
        fewer = [other for other in kept if other != difference]
        if not any([settles(names, fewer) for names in sets]):
            kept = fewer
    return kept


def doubt_of(system, move):
    """A pair of assignments that fit, the second one with changed exponents of the first base unit."""
    one = found_fit(system)
    other = {name: one[name] * Unit({system.bases[0]: move[name]}) for name in one}
    return (one, other)
