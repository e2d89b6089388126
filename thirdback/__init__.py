"""Thirdback: boxes made of two others by a rule nobody knows."""
