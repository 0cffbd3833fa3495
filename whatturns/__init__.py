"""Whatturns: which changes of a store turn the answer of a question."""
