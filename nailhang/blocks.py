"""Blocks: why a cord falls, told as a parting of its places."""


def blocks_of(cord):
    # Only the block that was opened last may take a place, and it is closed as soon as
    # its turns come to 0: so whatever opens within a block is closed within it, and none cross.
    waiting = []
    closed = []
    for place, piece in enumerate(cord):
        nail = piece[0]
        total = piece[1]
        places = []
        if waiting and waiting[-1][0] == nail:
            last = waiting.pop()
            total = last[1] + total
            places = last[2]
        places.append(place)
        if total == 0:
            closed.append(places)
        else:
            waiting.append((nail, total, places))
    if waiting:
        return None
    # Blocks are closed from the inside out; their first places tell the order asked for.
    return sorted(closed)
