"""The questions about what a reader has read. Each answers a list of numbers, a refusal as one alone."""

REFUSED_PLACE = -5
REFUSED_NOT_FOUND = -6


def as_row(signs):
    """A row as it stands in an answer: how many bytes it has, then these."""
    return [len(signs)] + signs


def tell_counts(reader):
    row_count = sum([len(statement.rows) for statement in reader.statements])
    return [
        reader.card_count, len(reader.statements), len(reader.errors), row_count,
        reader.mode, len(reader.kept),
    ]


def tell_statement(reader, place):
    if place >= len(reader.statements):
        return [REFUSED_PLACE]
    statement = reader.statements[place]
    numbers = [
        statement.kind, statement.first, statement.last, len(statement.operands), len(statement.rows),
    ]
    return numbers + as_row(statement.label) + as_row(statement.text)


def tell_item(reader, place, path):
    if place >= len(reader.statements):
        return [REFUSED_PLACE]
    item = item_at(reader.statements[place].operands, path)
    if item is None:
        return [REFUSED_NOT_FOUND]
    numbers = [item.sort_of_value, len(item.parts)]
    return numbers + as_row(item.key) + as_row(item.word) + as_row(item.inner)


def item_at(found, path):
    """The item at a path within these items; None if there is none."""
    item = None
    level = found
    for place in path:
        if place >= len(level):
            return None
        item = level[place]
        # What isn't a list has no parts, so no further place is found in it.
        level = item.parts
    return item


def tell_find(reader, place, key):
    if place >= len(reader.statements):
        return [REFUSED_PLACE]
    for item_place, item in enumerate(reader.statements[place].operands):
        if item.key == key:
            return [item_place]
    return [REFUSED_NOT_FOUND]
