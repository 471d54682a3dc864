"""Rules that find places in syntax trees."""
