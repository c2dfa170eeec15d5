"""Query plans that several workers run, and whether their answer is right."""
