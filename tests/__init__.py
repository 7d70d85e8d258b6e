"""The tests of heapsmeet."""
