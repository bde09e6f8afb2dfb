"""Fewlabels: the fewest quantities to label with units so that all other units follow."""
