"""Blocks: the lines of a web that hang together."""

from firerest.masks import flooded, mask_of, places_of


def blocks(web):
    """Return the places of each block, in ascending order."""
    found = []
    seen = {}
    for line in web.lines:
        if line not in seen:
            block = block_lines(web, line)
            for other in block:
                seen[other] = True
            found.append(places_of(mask_of([place for pair in block for place in pair])))
    return tuple(sorted(found))


def block_lines(web, line):
    """Return the lines of the block of a line."""
    found = [line]
    seen = {line: True}
    at = 0
    while at < len(found):
        for other in hanging_lines(web, found[at]):
            if other not in seen:
                seen[other] = True
                found.append(other)
        at += 1
    return found


def hanging_lines(web, line):
    """Return the line and all lines that hang together with it."""
    found = []
    for shared, end in (line, line[::-1]):
        reached = flooded(web.masks, 1 << end, ~(1 << shared))
        for other in places_of(reached & web.masks[shared]):
            found.append((min(shared, other), max(shared, other)))
    return found
