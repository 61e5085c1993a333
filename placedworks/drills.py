"""Drills: what a house would come to, were these turns played."""

from placedworks.chronicle import house_of, show_chronicle
from placedworks.pages import show_page


def drill(house, turns):
    """The page behind turns that are played on another house, made anew of the chronicle of this one."""
    other = house_of(list(house.machine_rows), show_chronicle(house))
    for rows in turns:
        other.play(rows)
    return show_page(other)
