"""The tests of tapedonce."""
