"""Rows: tuples of texts and of numbers of boxes."""


def together(pieces):
    row = []
    for piece in pieces:
        if isinstance(piece, int):
            row.append(piece)
        elif row != [] and isinstance(row[-1], str):
            row[-1] = row[-1] + piece
        elif piece != "":
            row.append(piece)
    return tuple(row)


def filled(row, held):
    return "".join([held[piece] if isinstance(piece, int) else piece for piece in row])
