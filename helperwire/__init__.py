"""Helperwire: an editor and its helper, on a wire."""
