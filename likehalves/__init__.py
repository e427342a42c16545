"""Likehalves: numbers whose parts have like sums of figures."""
