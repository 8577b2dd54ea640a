"""Pilepass: webs of steps that are run in one pass with one pile."""
