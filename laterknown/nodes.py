"""The nodes of a program: what leads to what, and whether it leads in a ring."""

from laterknown.naming import answers_of_kind


class Place:
    """The root, or one use of a module: its scope, and the path that stands ahead of its names."""

    def __init__(self, kinds, scope, path):
        self._kinds = kinds
        self.scope = scope
        self.path = path

    def block_node(self, kind_name, block_name, word):
        """The node of a block for a field, for its count or keys, or for its answers."""
        return f"{self.path}{kind_name}.{block_name} {word}"

    def many_nodes(self, block):
        """The node of the count or the keys of a block, if it has one."""
        return [self.block_node(block.kind_name, block.block_name, block.how)] if block.how else []

    def part_nodes(self, kind_name, block_name, part):
        """The nodes to which leads what names a field or an answer of a block."""
        is_answer = part in answers_of_kind(self._kinds[kind_name])
        word = "answers" if is_answer else part
        block = self.scope.things[(kind_name, block_name)]
        return [self.block_node(kind_name, block_name, word), *self.many_nodes(block)]

    def nodes_of(self, form, told):
        """The nodes that an expression of this form names, besides those of its parts."""
        if form == "name":
            return [f"{self.path}let {told}" if told in self.scope.lets else f"{self.path}input {told}"]
        if form == "output":
            return [f"{told[0]}/output {told[1]}"]
        if form in ("one", "some", "all"):
            return self.part_nodes(*told)
        return []

    def nodes_in(self, expression):
        """The nodes that an expression of this place names, each once."""
        found = {}
        ahead = [expression]
        while ahead:
            form, told, parts = ahead.pop()
            for node in self.nodes_of(form, told):
                found[node] = True
            ahead.extend(parts)
        return tuple(found)

    def ways_of_block(self, block):
        """To which nodes the nodes of a block lead."""
        ways = {}
        for field, expression in block.given.items():
            ways[self.block_node(block.kind_name, block.block_name, field)] = self.nodes_in(expression)
        for node in self.many_nodes(block):
            ways[node] = self.nodes_in(block.many)
        # The answers lead to all of the other nodes.
        nodes = tuple(ways)
        ways[self.block_node(block.kind_name, block.block_name, "answers")] = nodes
        return ways

    def all_ways(self):
        """To which nodes the lets, the blocks and the outputs of this place lead."""
        scope = self.scope
        ways = {f"{self.path}let {name}": self.nodes_in(scope.lets[name]) for name in scope.lets}
        for name in scope.outputs:
            ways[f"{self.path}output {name}"] = self.nodes_in(scope.outputs[name])
        for block in scope.things.values():
            ways.update(self.ways_of_block(block))
        return ways


def ways_of(kinds, outline):
    """All nodes of a program, each with the nodes to which it leads."""
    root = Place(kinds, outline.root(), "")
    ways = root.all_ways()
    for name, use in outline.root().uses.items():
        for given in use.given:
            ways[f"{name}/input {given}"] = root.nodes_in(use.given[given])
        ways.update(Place(kinds, outline.module(use.module_name), f"{name}/").all_ways())
    return ways


def is_ring(ways, value):
    """Whether any value is a ring of nodes."""
    if not isinstance(value, tuple) or not value:
        return False
    if not all([isinstance(node, str) and node in ways for node in value]):
        return False
    return all([further in ways[node] for node, further in zip(value, (*value[1:], value[0]))])
