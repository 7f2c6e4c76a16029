"""Methodworlds: tasks that break down, in one world and in all worlds."""
