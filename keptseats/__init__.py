"""Seats kept from lower fares, by exact expectation: see keptseats.plan."""
