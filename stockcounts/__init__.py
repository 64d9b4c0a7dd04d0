"""Stockcounts: when movements and counts of goods do not add up."""
