"""Ropeclock: moments measured by ropes that burn unevenly."""
