"""What is least: fewest faces, one size, covers, trees."""
