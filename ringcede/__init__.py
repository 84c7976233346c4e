"""Losses handed on from house to house, in rings too, till each crown rests at one."""
