"""Books of concepts, and whether two of them tell the same in some of their words."""
