"""Claims: what a side gets that doesn't play on."""
