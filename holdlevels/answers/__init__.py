"""Worst answers of tasks, and the runs that reach them."""
