"""Lyingstandins: checks that keep stand-ins honest."""
