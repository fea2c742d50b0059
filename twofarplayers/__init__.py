"""Twofarplayers: two players, far apart, over a road that loses letters."""
