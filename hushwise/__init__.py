"""Hushwise: who may hear what a program tells."""
