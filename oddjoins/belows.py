"""Below papers told: a ring below nought, or shares that show that there is none."""

from oddjoins.bettering import better_ring, judged_join
from oddjoins.rings import rings_of


def below_paper(web):
    paper = judged_join(web, (), ())
    if paper[0] == "least":
        return ("none", paper[2], paper[3])
    # What makes the join without ties cheaper is below nought by itself; the even set of one ring falls into it alone.
    ring = rings_of(web, better_ring(web, (), paper)[2])[0]
    return ("ring", ring[0], ring[1])
