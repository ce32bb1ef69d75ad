"""Bindspan: names bound for the time of a block, callbacks that are kept meanwhile, and all their callers."""
