"""Rows laid to marks, and papers that show that none misses less."""
