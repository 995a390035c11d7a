"""Nothing is refused, so the program has no errors of its own."""
