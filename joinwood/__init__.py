"""Questions over several tables, taken apart to trees, counted, and bounded by weights."""
