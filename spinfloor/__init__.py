"""Spinfloor: signs up and down on a flat web."""
