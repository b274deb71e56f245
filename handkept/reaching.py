"""Members of walks: all that come, and whether a table is closed.

walks is an object with guesses, walk_by(guess) and walk_of(member), which have first(), opened(member) and
closed(member), and is_wanted(member).
"""

from handkept.errors import TooMany

MOST_MEMBERS = 6000
# Members of one guess stand together, in a level as in a table: so walks are not kept for long, as they grow large.
MOST_WALKS = 50


class Reach:
    """The members that come, level by level: those of one level come by walks that open as many records.

    came has (member ahead, step) of each member, (None, ()) of the first ones; wanted is a wanted member of the
    least level, None if there is none. Behind a level with a wanted member no other one is looked for.
    """

    def __init__(self, walks, is_whole):
        self.walks = walks
        self.is_whole = is_whole
        self.came = {}
        self.level = []
        self.wanted = None

    def go(self):
        """Raises TooMany if too many members come by walks that open fewer records than a wanted one.

        If the whole table is needed, it does so for any that are too many.
        """
        self.go_first()
        while self.level and self.wanted is None:
            self.refuse_too_many()
            self.go_on()

    def refuse_too_many(self):
        if len(self.came) > MOST_MEMBERS:
            raise TooMany(MOST_MEMBERS)

    def go_first(self):
        for guess in self.walks.guesses.each_guess():
            walk = self.walks.walk_by(guess)
            for member in walk.first():
                self.add(walk, None, (), member)
            # So many guesses are there only for a line with REFs: no walk that opens no record has it.
            if self.is_whole or self.walks.guesses.has_refs:
                self.refuse_too_many()

    def go_on(self):
        ahead = self.level
        self.level = []
        for member in ahead:
            walk = self.walks.walk_of(member)
            for step, behind in walk.opened(member):
                if behind not in self.came:
                    self.add(walk, member, step, behind)
                    if self.wanted is not None:
                        return
            if self.is_whole:
                self.refuse_too_many()

    def add(self, walk, ahead, step, member):
        """Adds a member that came, and all that come of it by closing alone."""
        came = [(step, member)]
        chain = []
        while came and came[0][1] not in self.came:
            step, member = came[0]
            chain.append((member, (ahead, step)))
            if self.walks.is_wanted(member):
                self.wanted = member
            ahead = member
            came = walk.closed(member)
        # If there are too many without a wanted one, no other level is walked: these need not be kept.
        if self.wanted is not None or len(self.came) <= MOST_MEMBERS:
            for member, way in chain:
                self.came[member] = way
                self.level.append(member)

    def table(self):
        """All members that came, ascending."""
        return tuple(sorted(list(self.came)))

    def steps_to(self, member):
        """All (step, member) from the first member, whose step is (), to this one."""
        steps = []
        while member is not None:
            ahead, step = self.came[member]
            steps.append((step, member))
            member = ahead
        return steps[::-1]


def is_closed(walks, table):
    """Whether a table of members by their form has the first ones and all that come of its members."""
    members = {member: True for member in table}
    for guess in walks.guesses.each_guess():
        first = walks.walk_by(guess).first()
        if not all([member in members for member in first]):
            return False
    for member in table:
        walk = walks.walk_of(member)
        if not all([behind in members for _, behind in walk.opened(member) + walk.closed(member)]):
            return False
    return True
