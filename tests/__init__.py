"""The tests of twicewashed."""
