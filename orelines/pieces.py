"""Pieces: greatest sets of ore cells that hang together side by side."""

from orelines.cells import ore_cells


def cells_beside(cell):
    x = cell[0]
    y = cell[1]
    return [(x + 1, y), (x, y + 1), (x - 1, y), (x, y - 1)]


# The cells of the piece that first lies in, first ahead of the others.
def piece_from(first, ore):
    piece = {first: True}
    waiting = [first]
    while len(waiting) > 0:
        cell = waiting.pop()
        for other in cells_beside(cell):
            if other in ore and other not in piece:
                piece[other] = True
                waiting.append(other)
    return list(piece)


# Ore cells come row by row, so the first one met of a piece is its first, and pieces come in their order.
def pieces_of(bench, lines):
    ore = ore_cells(bench, lines)
    placed = {}
    pieces = []
    for cell in ore:
        if cell not in placed:
            piece = piece_from(cell, ore)
            pieces.append(piece)
            for member in piece:
                placed[member] = True
    return pieces
