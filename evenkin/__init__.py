"""Evenkin: webs held against one another by trees, tables of shares and kinds of pairs."""
