"""A vector machine: lanes, masks, and lanes that fail by themselves."""
