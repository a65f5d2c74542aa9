"""Planning tasks in their own words."""
