"""Tallyplans: which summaries of frequent items come from which arrivals."""
