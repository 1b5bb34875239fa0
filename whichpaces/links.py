"""Places and what they lead to: for each place the list of the places that follow.

Nothing is refused here.
"""


def reached(links, place):
    """Which places ways with at least one road lead to from the place: a bool for each."""
    found = [False] * len(links)
    waiting = [place]
    while waiting:
        for following in links[waiting.pop()]:
            if not found[following]:
                found[following] = True
                waiting.append(following)
    return found


def all_reached(links):
    """For each place which places ways with at least one road lead to."""
    return [reached(links, place) for place in range(len(links))]


def is_one_lot(links):
    """Whether from each place a way with at least one road leads to each place."""
    return all([all(found) for found in all_reached(links)])


def has_rounds(links):
    """Whether some way with at least one road leads back to where it began."""
    return any([found[place] for place, found in enumerate(all_reached(links))])


def lots_of(links):
    """The rising list of the lots, rising lists of places that lead to one another."""
    found = all_reached(links)
    lots = []
    for place in range(len(links)):
        lot = [other for other in range(len(links)) if found[place][other] and found[other][place]]
        if not lot:
            lot = [place]
        if lot[0] == place:
            lots.append(lot)
    return lots
