"""Texts, cells and documents.

A text is a tuple of bytes, a cell is (number, mark, text), a document is a tuple of cells.
None of them can be changed, so a document that is kept stays what it was.
"""

MOST_CELLS = 12
LONGEST_TEXT = 200
GREATEST_BYTE = 255


def are_bytes(numbers):
    return all([0 <= number <= GREATEST_BYTE for number in numbers])


def number_of(cell):
    return cell[0]


def mark_of(cell):
    return cell[1]


def text_of(cell):
    return cell[2]


def index_of(document, number):
    """The index of the cell of that number, -1 if there is none."""
    for index, cell in enumerate(document):
        if number_of(cell) == number:
            return index
    return -1


def has_cell(document, number):
    return index_of(document, number) >= 0


def with_cells(document, index, count, cells):
    """The document with these cells in the place of as many as count says, from the index on."""
    return document[:index] + cells + document[index + count:]


def put_behind(document, after, cell):
    """The document with the cell right behind the cell after, or first if after is 0."""
    index = 0
    if after != 0:
        index = index_of(document, after) + 1
    return with_cells(document, index, 0, (cell,))


def places_found(text, wanted):
    """The places where the wanted text, which is not empty, is found."""
    places = []
    first = wanted[0]
    length = len(wanted)
    last_place = len(text) - length
    place = 0
    while place <= last_place:
        # Most places are told by their first byte, without a slice of the text.
        if text[place] == first and text[place:place + length] == wanted:
            places.append(place)
            place += length
        else:
            place += 1
    return places


def count_found(document, wanted):
    return sum([len(places_found(text_of(cell), wanted)) for cell in document])


def text_replaced(text, wanted, other):
    """The text with the other one wherever the wanted one is found, None if it would be too long."""
    places = places_found(text, wanted)
    # Told before it is made, for it may be far longer than a cell's.
    if len(text) + len(places) * (len(other) - len(wanted)) > LONGEST_TEXT:
        return None
    made = []
    behind = 0
    for place in places:
        made.extend(text[behind:place])
        made.extend(other)
        behind = place + len(wanted)
    made.extend(text[behind:])
    return tuple(made)
