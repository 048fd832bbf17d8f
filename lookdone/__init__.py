"""Lookdone: a store that runs a transaction only when somebody looks."""
