"""Lackmark: programs that go through rows in which a number stands for nothing."""
