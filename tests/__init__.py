"""The tests of stairyard."""
