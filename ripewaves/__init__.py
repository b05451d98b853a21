"""Ripewaves: changes written back block by block, and whether the order matters."""
