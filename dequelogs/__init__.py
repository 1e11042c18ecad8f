"""Dequelogs: the logs of work stealing without clocks."""
