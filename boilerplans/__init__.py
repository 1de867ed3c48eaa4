"""Plants in steps: the cheapest way to run some boilers through the hours of a day."""
