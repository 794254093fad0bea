"""Tests of gradetalk. Run them with `python3 -m unittest` at the top of the repository."""
