"""The room and the threads that tasks need under levels."""
