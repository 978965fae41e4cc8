"""The greatest amounts that names can give to other names, over links of which each has one of both."""


def greatest_amounts(supply, demand, links):
    """The amounts over the links (giver, taker) with the greatest sum.

    No name gives more than its supply, and none gets more than its demand. Some names may give and get.
    """
    amounts = {link: 0 for link in links}
    path = path_for_more(supply, demand, amounts)
    while path is not None:
        amounts = with_more(supply, demand, amounts, path)
        path = path_for_more(supply, demand, amounts)
    return amounts


def unused(supply, amounts, name):
    """What a name could still give."""
    return supply[name] - sum([amounts[link] for link in amounts if link[0] == name])


def unmet(demand, amounts, name):
    """What a name could still get."""
    return demand[name] - sum([amounts[link] for link in amounts if link[1] == name])


def path_for_more(supply, demand, amounts):
    """A shortest list of links, by turns one for a greater and one for a less amount; None if there is none.

    By its links one name gives more, and one gets more; each other name gives and gets as much as before.
    """
    paths = {name: [] for name in supply if unused(supply, amounts, name) > 0}
    waiting = list(paths)
    while len(waiting) > 0:
        giver = waiting[0]
        waiting = waiting[1:]
        for forth in [link for link in amounts if link[0] == giver]:
            if unmet(demand, amounts, forth[1]) > 0:
                return paths[giver] + [forth]
            for back in [link for link in amounts if link[1] == forth[1] and amounts[link] > 0]:
                if back[0] not in paths:
                    paths[back[0]] = paths[giver] + [forth, back]
                    waiting.append(back[0])
    return None


def with_more(supply, demand, amounts, path):
    """The amounts with as much more as the path lets."""
    forth, back = path[::2], path[1::2]
    ends = [unused(supply, amounts, path[0][0]), unmet(demand, amounts, path[-1][1])]
    more = min(ends + [amounts[link] for link in back])
    return {link: amounts[link] + more * (int(link in forth) - int(link in back)) for link in amounts}
