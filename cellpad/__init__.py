"""A notebook's document under edits."""
