"""Lookpast: people who point at one another, and who look past each other when called."""
