"""Meanmoon: calendars by the mean moon and the mean year."""
