"""BACKSEEN: what has to be in a language that looks back at most k letters, from the words that were seen."""
