"""The tests of trailparts."""
