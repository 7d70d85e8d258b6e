"""Heapsmeet: points parted so that hulls meet, in whole numbers throughout."""
