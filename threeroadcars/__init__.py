"""Threeroadcars: what webs of roads that meet by threes bear."""
