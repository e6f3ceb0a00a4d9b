"""Boxes with room, whose things are changed up and down: who comes to what, by one place."""
