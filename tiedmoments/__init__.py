"""Conditions on the moments of a message log, as further ties."""
