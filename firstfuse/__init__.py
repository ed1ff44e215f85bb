"""Firstfuse: which fuses of a tree can blow, and what stays lit."""
