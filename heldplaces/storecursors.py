"""The cursors of a store. Each is at a key of the index, or past."""


class Cursor:
    """Where a cursor is: a key, and whether it is fresh; None if it is past."""

    def __init__(self, key):
        self.key = key
        self.is_fresh = key is not None


def first_key(store, key):
    """The first key of the index from one on (of all for None), or None."""
    found = [one for one in store.index if key is None or one >= key]
    return min(found) if found else None


def move_cursors(store, key):
    """Moves the cursors at a key that left the index to the next one."""
    for cursor in store.cursors:
        if cursor.key == key:
            cursor.key = first_key(store, key)
            cursor.is_fresh = cursor.key is not None


def step_cursor(store, cursor):
    """Goes on with a cursor: the key that is met, or None."""
    if cursor.key is None:
        return None
    if not cursor.is_fresh:
        cursor.key = first_key(store, cursor.key + 1)
    cursor.is_fresh = False
    return cursor.key
