"""Lockturns: yes/no tasks as rows of turns of a lock."""
