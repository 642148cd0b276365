"""Planwright: deeds put in order to come to a goal, the cheapest way shown."""
