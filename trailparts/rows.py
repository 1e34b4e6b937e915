"""The text of a history."""


def row_of(event):
    """Return the row of an event."""
    if event[0] == "ask":
        return row_of_ask(event)
    return " ".join([str(item) for item in event])


def row_of_ask(event):
    """Return the row of an ask."""
    word, hand, name, deed, gift, target = event
    words = [word, hand, name] + [str(item) for item in deed]
    if gift is not None:
        words.extend(["with", gift])
    if target is not None:
        words.extend(["into", target])
    return " ".join(words)


def rows_of(events):
    """Return the rows of the events of a history."""
    return [row_of(event) for event in events]
