"""Leastlooks: how many hidden bits a question must look at."""
