"""Gaugewright: parts that vary, gaps that must fit, and a paper for each answer."""
