"""Things that are called by numbers and hang together by pairs of these, and lists of things put in order."""


def least_twice(things):
    """The least thing that stands in the list more than once, or None."""
    ordered = sorted(things)
    for one, other in zip(ordered, ordered[1:]):
        if one == other:
            return one
    return None


def numbers_of(things):
    """A dict that tells of each thing of the list its number in it."""
    return dict([(thing, k) for k, thing in enumerate(things)])


def links_of(count, pairs):
    """For each number below the count the list of those with which a pair has it; more in a pair is passed over."""
    links = [[] for k in range(count)]
    for pair in pairs:
        links[pair[0]].append(pair[1])
        links[pair[1]].append(pair[0])
    return links


def reached_from(start, links):
    """A dict of all numbers that hang together with start: each with the one it was reached from, the nearest first."""
    origins = {start: None}
    waiting = [start]
    while waiting:
        k = waiting.pop(0)
        for j in links[k]:
            if j not in origins:
                origins[j] = k
                waiting.append(j)
    return origins


def least_apart(count, pairs):
    """The least number below the count that doesn't hang together with 0, or None."""
    reached = reached_from(0, links_of(count, pairs))
    for k in range(count):
        if k not in reached:
            return k
    return None


def first_ring(count, pairs):
    """The place of the first pair whose numbers hang together already by the pairs ahead of it, or None."""
    groups = list(range(count))
    for k, pair in enumerate(pairs):
        one = groups[pair[0]]
        other = groups[pair[1]]
        if one == other:
            return k
        groups = [one if group == other else group for group in groups]
    return None


def first_meeting(things):
    """(i, j): j the least number of a thing of the list that stands in it ahead, too, as number i; or None."""
    numbers = {}
    for j, thing in enumerate(things):
        if thing in numbers:
            return (numbers[thing], j)
        numbers[thing] = j
    return None


def path_back(origins, k):
    """The numbers by which k was reached, from itself back to the start."""
    path = []
    while k is not None:
        path.append(k)
        k = origins[k]
    return path


def path_between(origins, i, j):
    """The numbers from i to j by those from which each was reached."""
    there = path_back(origins, i)
    back = path_back(origins, j)
    # What both have in common at their ends is gone there and back again, so it is left out but for one number.
    while len(there) > 1 and len(back) > 1 and there[-2] == back[-2]:
        there.pop()
        back.pop()
    return there + list(reversed(back[:-1]))
