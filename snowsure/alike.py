"""Other names: cities, skies and papers with other names of junctions, streets, ploughs and states."""


def all_renamed(row, names):
    """A row of names with other ones; those that aren't in the dict stay."""
    return tuple([names.get(name, name) for name in row])


def renamed_city(city, names):
    """A city with other names."""
    junctions, streets, ploughs, rules = city
    return (
        all_renamed(junctions, names),
        tuple([(*all_renamed(street[:3], names), *street[3:]) for street in streets]),
        tuple([all_renamed(plough, names) for plough in ploughs]),
        rules,
    )


def renamed_sky(sky, names):
    """A sky with other names."""
    first, states = sky
    rows = []
    for name, arcs in states:
        renamed_arcs = [(names.get(behind, behind), all_renamed(streets, names)) for behind, streets in arcs]
        rows.append((names.get(name, name), tuple(renamed_arcs)))
    return names.get(first, first), tuple(rows)


def renamed_standing(standing, names):
    """A standing with other names."""
    time, state, snow, ploughs, fallen = standing
    return time, names.get(state, state), snow, tuple([renamed_plough(plough, names) for plough in ploughs]), fallen


def renamed_plough(plough, names):
    """A plough's whereabouts with other names; their first word is none, even if a junction is called so."""
    return (plough[0], *all_renamed(plough[1:3], names), *plough[3:])


def renamed_orders(orders, names):
    """Orders with other names."""
    return tuple([None if order is None else (names.get(order[0], order[0]), order[1]) for order in orders])


def renamed_rule(rule, names):
    """A rule with other names."""
    return {renamed_standing(standing, names): renamed_orders(rule[standing], names) for standing in rule}


def renamed_weather(weather, names):
    """A weather with other names; its answers tell none."""
    renamed = {}
    for standing in weather:
        rank, answers = weather[standing]
        replies = {renamed_orders(orders, names): answers[orders] for orders in answers}
        renamed[renamed_standing(standing, names)] = (rank, replies)
    return renamed
