"""What all houses of a world can look up, as on a board that hangs in each."""

HEADS = ("h0", "h1")


def askers_of(users):
    """The askers by their names, each with its user."""
    return {f"a{at}": user for at, user in enumerate(users)}


class Board:
    """Who is who, which houses are lost or being emptied, and the tick."""

    def __init__(self, users, groups, pieces, copies):
        self.users = askers_of(users)
        self.groups = groups
        self.keepers = [f"p{at}" for at in range(pieces)]
        self.copies = copies
        self.clock = 0
        self.away = {}
        self.leaving = {}

    def left(self):
        """The piece houses that aren't gone."""
        return [house for house in self.keepers if house not in self.away]

    def staying(self):
        """The piece houses that are neither gone nor being emptied."""
        return [house for house in self.left() if house not in self.leaving]

    def wanted(self):
        """In how many of the piece houses that stay all cells shall be, one at least."""
        return max(1, min(self.copies, len(self.staying())))

    def is_enough(self, houses):
        """Whether cells that these houses kept, while they stayed, are kept well."""
        staying = self.staying()
        if len([house for house in houses if house not in self.away]) >= self.copies:
            return True
        return len(staying) > 0 and all([house in houses for house in staying])
