"""Wordsalike: the arithmetic of machine words, for all inputs."""
