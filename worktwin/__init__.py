"""Worktwin: a works followed by its signs alone."""
