"""Wordswap: wares that change hands by words said on."""
