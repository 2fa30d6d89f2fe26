"""Nameagain: few names given again, when nothing is left of who bore them."""
