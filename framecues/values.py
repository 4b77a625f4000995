"""The stack of effects, the values that it has, and how players write them into the style."""

from framecues.effects import effect_value


def layers_of(scene, target, name):
    """The triples (player, effect, facts) that make the value of a property, from the lowest on."""
    found = []
    for player in scene.ranked():
        if player.mark != "removed":
            found.extend(player_layers(player, target, name))
    return found


def player_layers(player, target, name):
    """As layers_of, of one player alone."""
    if player.effect is None or not any([_leads(effect, target, name) for effect in player.effect.leaves]):
        return []
    layers = [(player, effect, facts) for effect, facts in player.all_facts()]
    return [layer for layer in layers if _leads(layer[1], target, name) and layer[2][6] is not None]


def _leads(effect, target, name):
    return effect.target == target and name in effect.tracks


def stack_value(scene, target, name):
    """The value of a property of a target now."""
    return _layered_value(scene, target, name, layers_of(scene, target, name))


def _layered_value(scene, target, name, layers):
    value = scene.look_of(target, name)
    for _, effect, facts in layers:
        value = effect_value(effect, name, facts, value)
    return value


def stack_names(scene, target, name):
    """The names of the effects that make the value, transitions by their players."""
    layers = layers_of(scene, target, name)
    return [player.name if effect.name is None else effect.name for player, effect, _ in layers]


def commit(scene, player):
    """Write what the player's effects make of the values into the style, one effect after the other."""
    for effect, facts in player.all_facts():
        if facts[6] is not None:
            for name in effect.tracks:
                layers = _layers_up_to(scene, player, effect, name)
                scene.looks[(effect.target, name)] = _layered_value(scene, effect.target, name, layers)


def _layers_up_to(scene, last, leaf, name):
    """The layers for a property from the lowest on up to this effect of this player, also of a removed one."""
    found = []
    for player in scene.ranked():
        if player.name == last.name:
            break
        if player.mark != "removed":
            found.extend(player_layers(player, leaf.target, name))
    for layer in player_layers(last, leaf.target, name):
        found.append(layer)
        if layer[1].name == leaf.name:
            break
    return found
