"""Several looks that share their evaluation."""

from lookdone.books import book_of
from lookdone.workings import Look, Worker


def worked(log, looks, turns, *, entries=()):
    """The values of the looks, (expression, position), and who began which slots."""
    book = book_of(log, entries)
    roots = [book.node_at(expression, position) for expression, position in looks]
    values, begun, _ = shared_out(roots, turns)
    return (values, begun)


def shared_out(roots, turns):
    """The values of the nodes, who began which slots, and the slots that were evaluated."""
    begun = []
    ended = []
    workers = [Worker(number, Look(root), begun, ended) for number, root in enumerate(roots)]
    for number in turns:
        workers[number].take_turn()
    while any([not worker.is_done() for worker in workers]):
        for worker in workers:
            worker.take_turn()
    return (tuple([worker.told for worker in workers]), tuple(begun), ended)
