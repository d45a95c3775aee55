"""Oddjoins: ties chosen so that told places have an odd count of them, and papers that show which are least."""
