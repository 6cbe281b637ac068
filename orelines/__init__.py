"""Ore control: which cells of a bench go as ore, and lines that can be dug."""
