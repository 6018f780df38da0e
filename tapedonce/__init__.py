"""Tapedonce: works that are run once, written down, and run again from their tapes."""
