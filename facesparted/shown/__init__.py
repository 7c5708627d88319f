"""What shows something of partings: odd counts, tightness."""
