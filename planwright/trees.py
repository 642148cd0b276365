"""Trees: tasks that are parted by methods until deeds are left, found, and checked part by part."""

from planwright.errors import BadDeed, BadPaper, BadPlan, BadSize, NoSuch


class Methods:
    """A problem and (task, needed facts, parts) methods, as they were told; parts are tasks or deeds' names."""

    def __init__(self, problem, rows):
        self.problem = problem
        self.rows = tuple([(task, tuple(needs), tuple(parts)) for task, needs, parts in rows])
        for task, _, parts in self.rows:
            if task in problem.deeds:
                raise BadDeed(f"a deed's name for a task: {task}")
            for name in parts:
                if name not in problem.deeds and not self.of(name):
                    raise NoSuch(f"no task or deed: {name}")

    def of(self, task):
        """Return the places of a task's methods, in order."""
        return [place for place, row in enumerate(self.rows) if row[0] == task]

    def tree(self, task, state, depth):
        """Return (tree, state behind) for a task or deed, its first way as methods are told; BadSize, NoSuch.

        None for none so deep. A tree is a deed's name, or (task, method's place, trees of its parts).
        """
        check_asked(self, task, depth)
        found = self.trees(task, state, depth)
        return found[0] if found != [] else None

    def trees(self, task, state, depth):
        """Return all (tree, state behind) of a task or deed, so deep at most, as methods are told; NoSuch."""
        return trees_with(self, task, tuple(state), depth, {})

    def rows_of(self, parts, state, depth):
        """Return all (trees, state behind) of parts in turn, so deep at most; NoSuch."""
        return rows_with(self, parts, tuple(state), depth, {})

    def check(self, tree, state):
        """Return the state behind a tree, each method's needs there and its parts in turn.

        BadPaper, BadDeed, NoSuch.
        """
        if isinstance(tree, str):
            return self.problem.deed(tree).done(state)
        task, place, rows = tree
        if not 0 <= place < len(self.rows) or self.rows[place][0] != task:
            raise BadPaper(f"no method of the task: {task}")
        _, needs, parts = self.rows[place]
        if not all(fact in state for fact in needs) or [name_of(row) for row in rows] != list(parts):
            raise BadPaper(f"another method: {task}")
        here = tuple(state)
        for row in rows:
            here = self.check(row, here)
        return here

    def best(self, task, state, depth):
        """Return (cost, tree) of a cheapest tree, the first such, None for none so deep; BadSize, NoSuch."""
        check_asked(self, task, depth)
        found = None
        for tree, _ in self.trees(task, state, depth):
            cost = self.problem.cost_of(plan_of_tree(tree))
            if found is None or cost < found[0]:
                found = (cost, tree)
        return found

    def shown(self):
        """Return the methods."""
        return self.rows


def check_asked(methods, task, depth):
    """Check what trees are asked of; BadSize for a depth below nought, NoSuch for no task or deed."""
    if depth < 0:
        raise BadSize(f"less than nought: {depth}")
    if task not in methods.problem.deeds and not methods.of(task):
        raise NoSuch(f"no task or deed: {task}")


def trees_with(methods, task, state, depth, table):
    """Return all (tree, state behind) of a task or deed, so deep at most; the table keeps what was found; NoSuch."""
    places = methods.of(task)
    if places == []:
        deed = methods.problem.deed(task)
        return [(task, deed.done(state))] if deed.fits(state) else []
    key = (task, state, depth)
    if key not in table:
        found = []
        for place in places:
            _, needs, parts = methods.rows[place]
            if depth > 0 and all(fact in state for fact in needs):
                rows = rows_with(methods, parts, state, depth - 1, table)
                found.extend([((task, place, row), after) for row, after in rows])
        table[key] = found
    return table[key]


def rows_with(methods, parts, state, depth, table):
    """Return all (trees, state behind) of parts in turn, so deep at most; the table keeps what was found; NoSuch."""
    rows = [((), state)]
    for part in parts:
        rows = [
            (row + (tree,), after)
            for row, here in rows for tree, after in trees_with(methods, part, here, depth, table)
        ]
    return rows


def name_of(tree):
    """Return a tree's task or deed."""
    return tree if isinstance(tree, str) else tree[0]


def plan_of_tree(tree):
    """Return the plan of a tree's deeds, from the left."""
    if isinstance(tree, str):
        return (tree,)
    names = []
    for row in tree[2]:
        names.extend(plan_of_tree(row))
    return tuple(names)


def depth_of_tree(tree):
    """Return how many methods stand one in another at most."""
    if isinstance(tree, str):
        return 0
    return 1 + max([depth_of_tree(row) for row in tree[2]], default=0)


def told_tree(tree):
    """Return a tree's text: a deed's name, or the task and, in brackets, its parts."""
    if isinstance(tree, str):
        return tree
    return tree[0] + "[" + " ".join([told_tree(row) for row in tree[2]]) + "]"


def plans_of(methods, task, state, depth):
    """Return the plans of all trees of a task, each once, in order; BadSize, NoSuch."""
    check_asked(methods, task, depth)
    return tuple(sorted({plan_of_tree(tree) for tree, _ in methods.trees(task, state, depth)}))


def goal_tree(methods, task, depth):
    """Return the first tree of a task, from the start, behind which the goal is; BadPlan, BadSize, NoSuch."""
    check_asked(methods, task, depth)
    for tree, after in methods.trees(task, methods.problem.start, depth):
        if methods.problem.is_goal(after):
            return tree
    raise BadPlan("no tree so deep comes to the goal")


def free_methods(problem):
    """Return methods for the task "go": nothing, for the goal, or any deed and then go; BadDeed."""
    return Methods(problem, [("go", problem.goal, ())] + [("go", (), (name, "go")) for name in problem.deeds])
