"""Bothcome: helpers on a tree of roads, and calls that come one by one."""
