"""How many row documents have each term."""


def all_spreads(documents, field):
    """For each term that some of the row documents have in a field, how many of them have it there."""
    spreads = {}
    for _, _, head, body in documents:
        row = row_in(head, body, field)
        for term in sorted({term for term in row if term is not None}):
            spreads[term] = spreads.get(term, 0) + 1
    return spreads


def row_in(head, body, field):
    """What stands in a field of a pair of rows."""
    if field == "head":
        return head
    if field == "body":
        return body
    return head + body


def by_number(spreads):
    """The pairs (TERM, NUMBER) of a dict, by the number, falling, then by the term, rising."""
    return tuple(sorted(spreads.items(), key=lambda spread: (-spread[1], spread[0])))
