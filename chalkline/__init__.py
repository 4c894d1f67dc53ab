"""Chalkline: pegs and chalk lines, and nothing else."""
