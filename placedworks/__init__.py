"""Placedworks: works kept running on machines that fall."""
