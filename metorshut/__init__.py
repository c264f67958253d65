"""Metorshut: test suites that are kept through every row of edits."""
