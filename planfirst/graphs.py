"""Graphs: numbers from 0 on, and for each of them a sorted list of those that must come behind it."""


def levels(behind):
    """Return lists of numbers, each in the first one behind all that must come ahead; None if there is a ring."""
    waiting = [0] * len(behind)
    for row in behind:
        for number in row:
            waiting[number] += 1
    found = []
    free = [number for number in range(len(behind)) if waiting[number] == 0]
    while free:
        found.append(free)
        freed = []
        for number in free:
            for other in behind[number]:
                waiting[other] -= 1
                if waiting[other] == 0:
                    freed.append(other)
        free = sorted(freed)
    return found if sum([len(level) for level in found]) == len(behind) else None


def reaches(behind, found):
    """Return for each number what comes behind it by any way, as bits of an integer; found are the levels."""
    masks = [0] * len(behind)
    for level in found[::-1]:
        for number in level:
            masks[number] = _mask_by(behind[number], masks)
    return masks


def reduced(behind, found):
    """Return the fewest pairs, sorted, from which all the others follow; found are the levels."""
    masks = reaches(behind, found)
    pairs = []
    for number, row in enumerate(behind):
        # What comes behind something that comes behind this number follows already.
        further = 0
        for other in row:
            further = further | masks[other]
        pairs.extend([(number, other) for other in row if not further >> other & 1])
    return pairs


def longest_way(behind, found):
    """Return the least of the longest ways; found are the levels."""
    heights = [1] * len(behind)
    for level in found[::-1]:
        for number in level:
            heights[number] += max([heights[other] for other in behind[number]], default=0)
    way = []
    steps_on = list(range(len(behind)))
    for height in range(len(found), 0, -1):
        number = min([other for other in steps_on if heights[other] == height])
        way.append(number)
        steps_on = behind[number]
    return way


def shortest_ring(behind):
    """Return a shortest ring from its least number on, of several the least one; None if there is none."""
    ahead = [[] for _ in behind]
    for number, row in enumerate(behind):
        for other in row:
            ahead[other].append(number)
    best = None
    for start in range(len(behind)):
        ring = _ring_from(start, behind, ahead)
        if ring is not None and (best is None or len(ring) < len(best)):
            best = ring
    return best


def _mask_by(row, masks):
    mask = 0
    for number in row:
        mask = mask | masks[number] | 1 << number
    return mask


def _ring_from(start, behind, ahead):
    """Return the least of the shortest rings of which the start is the least number, or None."""
    away = _ways_back(start, ahead)
    ring = [start]
    steps_on = [number for number in behind[start] if number in away]
    if not steps_on:
        return None
    for left in range(min([away[number] for number in steps_on]), 0, -1):
        number = min([other for other in behind[ring[-1]] if away.get(other) == left])
        ring.append(number)
    return ring


def _ways_back(start, ahead):
    """Return how many pairs a shortest way has back to the start, from each number above it with such a way."""
    away = {}
    reached = [start]
    length = 0
    while reached:
        length += 1
        further = []
        for number in reached:
            for other in ahead[number]:
                if other > start and other not in away:
                    away[other] = length
                    further.append(other)
        reached = further
    return away
