"""Farfiles: a tree of files kept by houses that fall, told as one."""
