"""The other web: a room for each round of a web, and a link for each tie."""


def links_of(web):
    return [(sides[0], sides[1], tie.strength) for sides, tie in zip(web.sides, web.ties)]
