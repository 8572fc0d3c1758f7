"""The layout of a program: all of its blocks, those of modules once for each use, and how deep they stand."""

from laterknown.naming import fields_of_kind
from laterknown.nodes import ways_of
from laterknown.rings import nodes_behind


class Ground:
    """The root, or one use of a module: its path, its names, and what is given for its inputs."""

    def __init__(self, path, scope, given):
        self.path = path
        self.scope = scope
        self.given = given


class Site:
    """A block of the root or of one use of a module, of a kind.

    It is written `main/box.b`. Its depth is the greatest number of answers of other blocks on a way of nodes
    from its own answers; its sources are all sites whose answers are on such a way.
    """

    def __init__(self, ground, block, of_kind):
        self.ground = ground
        self.block = block
        self.of_kind = of_kind
        self.written = f"{ground.path}{block.kind_name}.{block.block_name}"
        self.field_names = fields_of_kind(of_kind)
        self.depth = 0
        self.sources = ()

    def node(self):
        """The node of the answers of the block."""
        return f"{self.written} answers"


class Layout:
    """The grounds by their paths, the sites as they are written, and the rules: (kind, expression)."""

    def __init__(self, grounds, sites, rules):
        self.grounds = grounds
        self.sites = sites
        self.rules = rules

    def root(self):
        """The ground of the root."""
        return self.grounds[""]

    def site_at(self, ground, kind_name, block_name):
        """The site of a block that is named on a ground."""
        return self.sites[f"{ground.path}{kind_name}.{block_name}"]

    def depths(self):
        """The depths that there are, ascending."""
        return sorted(list({site.depth: True for site in self.sites.values()}))

    def sites_of_depth(self, depth):
        """The sites of this depth."""
        return [site for site in self.sites.values() if site.depth == depth]


def grounds_of(outline):
    """The root and the uses, by their paths."""
    grounds = {"": Ground("", outline.root(), {})}
    for name, use in outline.root().uses.items():
        grounds[f"{name}/"] = Ground(f"{name}/", outline.module(use.module_name), use.given)
    return grounds


def sites_of(kinds, grounds):
    """The sites of these grounds, as they are written."""
    sites = {}
    for ground in grounds.values():
        for block in ground.scope.things.values():
            site = Site(ground, block, kinds[block.kind_name])
            sites[site.written] = site
    return sites


class Soundings:
    """How many answers there are on the ways behind the nodes of a program, and which."""

    def __init__(self, ways, nodes):
        self.ways = ways
        self.nodes = nodes
        self.known = {}

    def depth_of(self, node):
        """The greatest number of answers on a way that begins with this node, besides its own."""
        if node not in self.known:
            self.known[node] = 0
            for further in self.ways[node]:
                steps = 1 if further in self.nodes else 0
                self.known[node] = max(self.known[node], self.depth_of(further) + steps)
        return self.known[node]

    def answers_behind(self, node):
        """The nodes of answers on the ways that begin with this node, besides itself."""
        return [further for further in nodes_behind(self.ways, node) if further in self.nodes]


def layout_of(kinds, outline, lines):
    """The layout of a program whose nodes have no ring."""
    grounds = grounds_of(outline)
    sites = sites_of(kinds, grounds)
    nodes = {site.node(): site.written for site in sites.values()}
    soundings = Soundings(ways_of(kinds, outline), nodes)
    for site in sites.values():
        site.depth = soundings.depth_of(site.node())
        site.sources = tuple([nodes[node] for node in soundings.answers_behind(site.node())])
    rules = tuple([(line.words[0], line.expression) for line in lines if line.form == "deny"])
    return Layout(grounds, sites, rules)
