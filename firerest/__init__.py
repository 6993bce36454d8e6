"""Firerest: webs whose places fire, rest and are ready again."""
