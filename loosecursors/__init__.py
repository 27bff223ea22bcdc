"""Listing tables that are rebuilt meanwhile: rules for cursors, roads of shapes and what can be said of their runs."""
