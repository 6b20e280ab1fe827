"""Fourlooks: closed cords of unit strokes, seen from four sides."""
