"""Gangbooks: a scheduler of machines that answers for all books of events."""
