"""Evenbend: worths over whole points that bend evenly, and their least points."""
