"""Fares between rooms, the least sums of lengths of rows of links."""

from spinfloor.reach import reached


def beyond(link, room):
    return link[1] if room == link[0] else link[0]


def links_at(many, links):
    at = [[] for room in range(many)]
    for number, link in enumerate(links):
        at[link[0]].append(number)
        at[link[1]].append(number)
    return at


def fares(many, links, start):
    at = links_at(many, links)
    told = [None for room in range(many)]
    via = [None for room in range(many)]
    told[start] = 0
    waiting = {start: True}
    while waiting != {}:
        room = min(waiting, key=lambda each: told[each])
        waiting.pop(room)
        for number in at[room]:
            there = beyond(links[number], room)
            fare = told[room] + links[number][2]
            # Only a lesser fare counts: so a room that was gone through keeps its link, and links of length nought
            # never lead back in a ring.
            if told[there] is None or fare < told[there]:
                told[there] = fare
                via[there] = number
                waiting[there] = True
    return (told, via)


def row_to(links, via, room):
    back = []
    here = room
    while via[here] is not None:
        back.append(via[here])
        here = beyond(links[via[here]], here)
    return list(reversed(back))


def whole(many, links):
    return reached(0, [(link[0], link[1]) for link in links]) == (1 << many) - 1
