"""Justthepart: whether the guards of a power net cut off just the faulty part, whatever fails."""
