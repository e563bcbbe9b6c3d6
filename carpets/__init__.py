"""Carpets: overlays, refinements and parts of periodic colourings."""
