"""What can be told at each depth: how the events lead from standing to standing."""

from lyingstandins.fields import events, standings
from lyingstandins.refusals import refusals
from lyingstandins.relations import EVERYWHERE, bits, composed, origins, passing, united

# Where the answers to look and to isshut stand among the 42 events, in order.
LOOKS = 9
ISSHUTS = 40


def _is_alone(event):
    """True if only the answer to isshut is shown behind the event."""
    deed, _ = event
    return deed[0] in ("shut", "isshut")


class Layer:
    """How the events lead from standing to standing at one depth.

    What is shown behind an event is a standing, and has its index. `lets` has for each event
    the mask of what may be shown behind it, `leads` its relation. `about` has for each
    standing the relation of showing it by look and isshut, and `alone` by isshut alone:
    then only the first two standings are shown, those without a field.
    """

    def __init__(self, lets, about, alone):
        self.lets = lets
        self.about = about
        self.alone = alone
        self.leads = [self.relation(event, mask) for event, mask in zip(events(), lets)]

    def showings(self, event):
        """The relations of showing what is shown behind the event."""
        return self.alone if _is_alone(event) else self.about

    def relation(self, event, mask):
        """How the event leads if the mask has what may be shown behind it."""
        showings = self.showings(event)
        return united([showings[at] for at in bits(mask) if at < len(showings)])


def ground_layer(checks):
    """The layer of depth 1: a thing that may change shows its standing."""
    lets = [EVERYWHERE & ~refused for refused in refusals(checks)]
    ways = passing()
    shown = [[row & (1 << at) for row in ways] for at in range(len(ways))]
    return Layer(lets, shown, shown)


def layer_above(layer):
    """The layer of the next depth: what is shown is told at the depth of this layer."""
    looks = layer.leads[:LOOKS]
    isshuts = layer.leads[ISSHUTS:]
    about = [composed(look, isshut) for look in looks for isshut in isshuts]
    return Layer(layer.lets, about, isshuts)


def layers_to(checks, depth):
    """The layers of the depths from 1 to this one."""
    layers = [ground_layer(checks)]
    while len(layers) < depth:
        layers.append(layer_above(layers[-1]))
    return layers


def telling(layers, at, before, after):
    """A telling of the last layer's depth by which the event with this index leads from before to after."""
    event = events()[at]
    if len(layers) == 1:
        return (event, standings()[after])
    below = layers[:-1]
    shown = _shown(layers[-1], at, before, after)
    isshut = ISSHUTS + shown % 2
    if _is_alone(event):
        return (event, (telling(below, isshut, before, after),))
    look = shown // 2
    leads = below[-1].leads
    between = bits(leads[look][before] & origins(leads[isshut], after))[0]
    return (event, (telling(below, look, before, between), telling(below, isshut, between, after)))


def _shown(layer, at, before, after):
    """The index of what may be shown behind the event when it leads from before to after."""
    showings = layer.showings(events()[at])
    allowed = [k for k in bits(layer.lets[at]) if k < len(showings)]
    return [k for k in allowed if showings[k][before] >> after & 1][0]
