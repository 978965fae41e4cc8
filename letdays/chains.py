"""Chains and crowds of names, by the list of the pairs of which the first one is surely ahead of the second.

Each name has a weight, a COUNT: 1 where names are counted, its price where prices are added.
"""

from letdays.flows import greatest_amounts
from letdays.values import are_sorted, is_list, is_name


def are_names_of(names, value):
    """Whether any value is a list of one or more of these names."""
    return is_list(value) and len(value) > 0 and all([is_name(name) and name in names for name in value])


def is_crowd_of(names, pairs, value):
    """Whether any value is a crowd of these names."""
    if not are_names_of(names, value) or not are_sorted(value):
        return False
    return not any([(one, other) in pairs for one in value for other in value])


def is_chain_of(names, pairs, value):
    """Whether any value is a chain of these names."""
    if not are_names_of(names, value):
        return False
    return all([(value[at - 1], value[at]) in pairs for at in range(1, len(value))])


def lined_up(names, pairs):
    """The names, each behind those that are surely ahead of it; of several that could be next, the least one."""
    found = []
    left = sorted(names)
    while len(left) > 0:
        free = [name for name in left if not any([(one, name) in pairs for one in left])]
        found.append(free[0])
        left = [name for name in left if name != free[0]]
    return found


def weight_of(names, weights):
    """The weights of the names together."""
    return sum([weights[name] for name in names])


def heaviest_crowd(names, weights, pairs):
    """A crowd of the names with the greatest weight; [] if there are no names."""
    crowds = [[]]
    for name in sorted(names):
        fitting = [crowd for crowd in crowds if is_crowd_of(names, pairs, crowd + [name])]
        crowds = crowds + [crowd + [name] for crowd in fitting]
    if len(crowds) == 1:
        return []
    # A crowd has a name, also where no name weighs anything.
    crowds = crowds[1:]
    most = max([weight_of(crowd, weights) for crowd in crowds])
    return [crowd for crowd in crowds if weight_of(crowd, weights) == most][0]


def heights_by(names, weights, pairs):
    """For each name the greatest weight of a chain of the names that ends with it; the keys are sorted."""
    found = {}
    for name in lined_up(names, pairs):
        found[name] = weights[name] + max([found[one] for one in found if (one, name) in pairs], default=0)
    return {name: found[name] for name in sorted(found)}


def heaviest_chain(names, weights, pairs):
    """A chain of the names with the greatest weight; [] if there are no names."""
    if len(names) == 0:
        return []
    heights = heights_by(names, weights, pairs)
    top = max([heights[name] for name in heights])
    chain = [name for name in heights if heights[name] == top][:1]
    rest = top - weights[chain[0]]
    while rest > 0:
        chain = [one for one in heights if (one, chain[0]) in pairs and heights[one] == rest][:1] + chain
        rest = rest - weights[chain[0]]
    return chain


def crowds_over(names, weights, pairs):
    """Tuples (crowd, number) that together have each name as often as it weighs; as few as can be.

    Each name takes the numbers from the height below it up to its own; two names that take one number are
    in no chain together. A chain with the greatest weight takes each number just once.
    """
    tops = heights_by(names, weights, pairs)
    edges = sorted(set([0] + [tops[name] for name in tops] + [tops[name] - weights[name] for name in tops]))
    found = []
    for low, high in zip(edges, edges[1:]):
        crowd = [name for name in tops if tops[name] - weights[name] <= low and high <= tops[name]]
        found.append((crowd, high - low))
    return found


def chains_over(names, weights, pairs):
    """Tuples (chain, number) that together have each name as often as it weighs; as few as can be.

    The more names of chains go on to a next one, the fewer chains there are: each name goes on at most as
    often as it weighs, and is gone on to at most as often.
    """
    inner = {name: weights[name] for name in sorted(names)}
    links = [(one, other) for one, other in pairs if one in inner and other in inner]
    amounts = greatest_amounts(inner, inner, links)
    found = []
    for name in inner:
        starts = inner[name] - sum([amounts[link] for link in links if link[1] == name])
        found = found + [(name, starts)]
    return chains_from(found, amounts)


def chains_from(starts, amounts):
    """Tuples (chain, number): as many chains as told begin with each name, and go on by these amounts."""
    found = []
    left = dict(amounts)
    for name, many in starts:
        while many > 0:
            chain = going_on(name, left)
            steps = list(zip(chain, chain[1:]))
            number = min([many] + [left[step] for step in steps])
            left = {link: left[link] - number * int(link in steps) for link in left}
            many = many - number
            found.append((chain, number))
    return found


def going_on(name, amounts):
    """A chain from the name on, as long as there is an amount by which it goes on."""
    chain = [name]
    onward = [name]
    while len(onward) > 0:
        onward = [link[1] for link in amounts if link[0] == chain[-1] and amounts[link] > 0][:1]
        chain = chain + onward
    return chain
