"""The tests of deeplooks."""
