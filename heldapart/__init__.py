"""Heldapart: programs with pointers, let by or told where they go wrong."""
