"""Heldback: parts of programs that fail and are resumed, and the cells that they put back."""
