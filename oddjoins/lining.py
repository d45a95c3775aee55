"""Line papers told: a least line over needed ties, or a side that shows why there is none, or none is shown."""

from oddjoins.going import counts_around, gone_counts, places_due, side_apart, walk_over
from oddjoins.linechecker import line_told
from oddjoins.sharing import join_paper
from oddjoins.webs import all_ties


def line_paper(web, needed, one, other):
    due = places_due(web, needed, (one, other))
    apart = side_apart(web, all_ties(web), due)
    if apart is not None:
        return ("apart", apart)
    loose = side_apart(web, needed, due)
    if loose is not None and needed != ():
        return ("loose", loose)
    paper = join_paper(web, line_told(web, needed, one, other))
    # A least join may have rings of nought that no walk from the one comes to; without them it is as cheap.
    counts = counts_around(web, gone_counts(web, needed + paper[1]), one)
    return ("line", walk_over(web, counts, one, other)[1], paper[2], paper[3])
