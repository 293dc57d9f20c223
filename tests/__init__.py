"""The tests of spanalike."""
