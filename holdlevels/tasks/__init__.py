"""A task, tasks, and their levels."""
