"""States: all that can change of a house at one time, and who reaches what in it."""

from filerights.judge import granting_digits
from filerights.words import folder_of

X_DIGIT = 1


class State:
    """All that can change of a house at one time; it never changes, so a house takes another one for each change.

    The umasks are a dict from the users, the nodes one from the paths, and following is the number of the next new
    node. What was asked before is kept, as nothing that it hangs on changes: here whom a node can be reached by, and at
    a node the digits of the entries by which a user is granted letters.
    """

    def __init__(self, people, following, umasks, nodes):
        self.following = following
        self.umasks = umasks
        self.nodes = nodes
        self._people = people
        self._reached = {}

    def with_umask(self, user, digits):
        """Return the state in which a user has another umask."""
        return State(self._people, self.following, {**self.umasks, user: digits}, self.nodes)

    def with_nodes(self, nodes):
        """Return the state with other nodes."""
        return State(self._people, self.following, self.umasks, nodes)

    def with_new(self, path, node):
        """Return the state with a new node, which has the number that follows."""
        return State(self._people, self.following + 1, self.umasks, {**self.nodes, path: node})

    def grants(self, user, path, digit):
        """Return True if a user is granted the letters of a digit at a node, all together."""
        return any([held & digit == digit for held in self.digits_for(user, path)])

    def digits_for(self, user, path):
        """Return the tuple of the digits of the entries by which a user is granted letters at a node."""
        node = self.nodes[path]
        if user not in node.granting:
            node.granting[user] = granting_digits(self._people, user, node.owner, node.group, node.access)
        return node.granting[user]

    def reaches(self, user, path):
        """Return True if a user is granted x in all folders above a node."""
        if (user, path) not in self._reached:
            folder = folder_of(path)
            open_way = folder is None or (self.reaches(user, folder) and self.grants(user, folder, X_DIGIT))
            self._reached[(user, path)] = open_way
        return self._reached[(user, path)]

    def __eq__(self, other):
        if not isinstance(other, State):
            return False
        return self.following == other.following and self.umasks == other.umasks and self.nodes == other.nodes
