"""Vowstair: sentences that speak of what can be shown of one another."""
