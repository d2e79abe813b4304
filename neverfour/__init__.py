"""Neverfour: links without a clock, on as few wires as can be."""
