"""Yesifs: transactions over several sites, with votes on conditions."""
