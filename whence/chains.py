"""Chains of tables with prices, and the cheapest names that strike all ways through (points 50 and 51)."""

from whence.errors import NoFit, NoName, NoTable, Twice


def layers_of(store, tables, prices):
    heads = store.heads()
    check_tables(tables, heads)
    if not makes_chain([heads[table] for table in tables]):
        raise NoFit("the tables' columns make no chain")
    for table in tables:
        check_prices(store.names(table), prices)
    return [layer_of(store, table, prices) for table in tables]


def check_tables(tables, heads):
    for table in tables:
        if table not in heads:
            raise NoTable(f"there is no table {table!r}")
    if len(set(tables)) != len(tables):
        raise Twice("a table stands twice in the chain")


def makes_chain(heads):
    if any([len(head) != 2 for head in heads]):
        return False
    columns = [heads[0][0]] + [head[1] for head in heads]
    return all([head[0] == column for head, column in zip(heads, columns)]) and len(set(columns)) == len(columns)


def check_prices(names, prices):
    for name in names:
        if name not in prices:
            raise NoName(f"no price is told for {name!r}")


def layer_of(store, table, prices):
    layer = []
    for name in store.names(table):
        row = store.row_of(name)[1]
        layer.append((name, prices[name], row[0], row[1]))
    return layer


def chain_cut(layers):
    links = links_of(layers)
    flows = greatest_flows(links, len(layers))
    reached = reached_nodes(links, flows)
    cut = [link for link in links if link[2] in reached and link[3] not in reached]
    names = tuple(sorted([link[0] for link in cut]))
    return (sum([link[1] for link in cut]), names, packing_of(links, flows, len(layers)))


# Each link as (name, price, node, node): a node is a tuple of how many layers are ahead of it, and a value.
def links_of(layers):
    links = []
    names = {}
    for k, layer in enumerate(layers):
        for name, price, left, right in layer:
            if name in names:
                raise Twice(f"the name {name!r} stands on two links")
            names[name] = True
            links.append((name, price, (k, left), (k + 1, right)))
    return links


# The packing is reckoned as a flow: how much of each name's price is taken. While there is a path with room left,
# along links that have some or back along links that give some back, as much as it has room for is sent along it.
# The path is one of the fewest steps, so that the many paths it takes do not hang on how great the prices are.
def greatest_flows(links, last):
    flows = dict([(link[0], 0) for link in links])
    path = path_with_room(links, flows, last)
    while len(path) > 0:
        room = min([step[2] for step in path])
        for name, sign, left in path:
            flows[name] = flows[name] + sign * room
        path = path_with_room(links, flows, last)
    return flows


def path_with_room(links, flows, last):
    reached = reached_nodes(links, flows)
    ends = [node for node in reached if node[0] == last]
    if len(ends) == 0:
        return []
    path = []
    came = reached[ends[0]]
    while came is not None:
        path.append(came[1])
        came = reached[came[0]]
    return path


# For each node that can be reached from the begin where there is room, the node ahead of it and the step from there,
# None at the begin; those of fewer steps first.
def reached_nodes(links, flows):
    reached = dict([(link[2], None) for link in links if link[2][0] == 0])
    ahead = list(reached)
    while len(ahead) > 0:
        further = []
        for node in ahead:
            for other, step in steps_from(node, links, flows):
                if other not in reached:
                    reached[other] = (node, step)
                    further.append(other)
        ahead = further
    return reached


# A step is a tuple of a name, 1 or -1 for on or back, and how much room there is.
def steps_from(node, links, flows):
    steps = []
    for name, price, left, right in links:
        if left == node and flows[name] < price:
            steps.append((right, (name, 1, price - flows[name])))
        if right == node and flows[name] > 0:
            steps.append((left, (name, -1, flows[name])))
    return steps


# At least one name's flow is used up by each way, so no way comes twice.
def packing_of(links, flows, last):
    left = dict(flows)
    packing = []
    way = way_with_flow(links, left, last)
    while len(way) > 0:
        many = min([left[name] for name in way])
        packing.append((many, way))
        for name in way:
            left[name] = left[name] - many
        way = way_with_flow(links, left, last)
    return packing


# As much flows on from a node as comes to it: where something flows, the first link that does is one of the first
# layer, and a way that is begun goes on to the end.
def way_with_flow(links, flows, last):
    flowing = [link for link in links if flows[link[0]] > 0]
    if len(flowing) == 0:
        return ()
    way = [flowing[0]]
    while len(way) < last:
        way.append([link for link in flowing if link[2] == way[-1][3]][0])
    return tuple([link[0] for link in way])
