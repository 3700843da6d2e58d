"""The tests of spreadrow."""
