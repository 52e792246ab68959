"""Spillsheet: arrays that spill and block each other, and the settled state of a sheet."""
