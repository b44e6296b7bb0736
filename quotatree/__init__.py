"""Quotatree: a tree of houses that share wares."""
