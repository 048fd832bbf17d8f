"""The tests of lookdone."""
