"""Forms that exchange the rests one for one: where others meet, the way back, and the rounds."""

from restform.errors import Meets
from restform.tables import first_alike, table, told_by
from restform.wholes import common_divisor


def meets(rests, form):
    return first_alike(table(rests, form))


def exchanging_table(rests, form):
    leads_to = table(rests, form)
    met = first_alike(leads_to)
    if met is not None:
        raise Meets(met[0], met[1])
    return leads_to


# A form always has this table: put into itself often enough, an exchanging form leaves x,
# and put so once less often, it leads back.
def back(rests, form):
    leads_back = [0] * rests.many
    for x, rest in enumerate(exchanging_table(rests, form)):
        leads_back[rest] = x
    return told_by(rests, leads_back)


def round_from(leads_to, x):
    places = [x]
    place = leads_to[x]
    while place != x:
        places.append(place)
        place = leads_to[place]
    return places


def rounds(rests, form):
    leads_to = exchanging_table(rests, form)
    found = []
    for x in range(rests.many):
        places = round_from(leads_to, x)
        # The walk from each of its places finds the round again; only the least one may count.
        if min(places) == x:
            found.append(places)
    return found


# A place is back where it was just when its round has been gone through whole times.
def often(rests, form):
    count = 1
    for places in rounds(rests, form):
        count = count // common_divisor(count, len(places)) * len(places)
    return count
