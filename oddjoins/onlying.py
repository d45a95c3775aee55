"""Only papers told: that a join is the only one of least price, or by which ties another one is no dearer."""

from oddjoins.forcing import forced_paper
from oddjoins.onlychecker import forces_against, is_dearer
from oddjoins.webs import by_turns


def only_paper(web, told, join):
    papers = []
    for number in range(len(web[1])):
        forces = forces_against(join, number)
        paper = forced_paper(web, told, forces[0], forces[1])
        if not is_dearer(web, join, paper):
            return ("other", by_turns(join, paper[1]))
        papers.append(paper)
    return ("only", tuple(papers))
