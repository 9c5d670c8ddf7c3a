"""Nextkind: how many places are enough when some are kept back and quotas bound what comes."""
