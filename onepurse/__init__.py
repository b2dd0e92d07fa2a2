"""Onepurse: machines with tolls, and whether one purse is enough for all words."""
