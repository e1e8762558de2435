"""Begunended: a Pascal with its machine of stack words."""
