"""The tests of the package giveways, and what they share."""
