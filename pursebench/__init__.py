"""Pursebench: seats for candidates that ballots like, and no group with a claim left out."""
