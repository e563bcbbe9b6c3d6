"""Where rows of letters and dots fit on what a net keeps."""

ANY_COLOUR = "."


def long_rows(net, text, length):
    """The rows of the text on the cell of a net, repeated so that so many letters begin at each of their places."""
    a = net.numbers[0]
    return [text[k:k + a] * (length // a + 2) for k in range(0, len(text), a)]


def letters_between(row):
    """The tuples (index, letters) for what stands between the dots of a row."""
    found = []
    start = 0
    for letters in row.split(ANY_COLOUR):
        if letters != "":
            found.append((start, letters))
        start = start + len(letters) + len(ANY_COLOUR)
    return found


def fitting(net, text, rows, places):
    """Those of some places of the cell of a net at which rows fit on the text on this cell, in their order."""
    a, b, c = net.numbers
    lines = long_rows(net, text, len(rows[0]))
    found = list(places)
    for j, row in enumerate(rows):
        for i, letters in letters_between(row):
            # The row c places further up is the same one, moved b places to the right.
            found = [
                (x, y) for x, y in found
                if lines[(y + j) % c].startswith(letters, (x + i - (y + j) // c * b) % a)
            ]
    return found
