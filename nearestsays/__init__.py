"""Nearestsays: tables whose places are told by the nearest row, changed row by row while they are asked."""
