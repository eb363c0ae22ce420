"""Oncetested: changes of some parts, settled by one test."""
