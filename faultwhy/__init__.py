"""Faultwhy: which parts of a work can't all be sound, and why."""
