"""How plans go through the levels of right rows: all that matters between two levels, and what follows from what.

The old row and the rows behind the deeds of a plan are read together, level by level. A node is a tuple (old, rest,
runs, mark): the state of the reader for the old row, or "" if it has ended; its rest, which is the number of bundles
that it still has, or None if what is known of the plans does not depend on it; a run for each plan; and what else is
kept in mind. A run is a pair (tail, deeds): what is known of the plan, and a triple (pair, note, state) for each deed
that must still be followed: the pair for the next level, the note, and the state of the reader for the row behind it.
"""

from fingerbooks.book.books import first_pair, is_put
from fingerbooks.errors import TooMany

MAX_NODES = 20000

# What is known of a plan: all is done so far; or a deed fails; or one fails if the old row has the rest that is told;
# or one cannot be done in an empty row.
DONE = "done"
FAILED = "failed"
DOOMED = "doomed"
STOPPED = "stopped"

# The state of a row that has no more levels, as it is supposed; an empty state is one of a row that cannot be right.
_ENDED = "."


class Passage:
    """How the rows of a plan pass a level."""

    def __init__(self, tail, form):
        self.tail = tail
        self.deeds = []
        # The form of the old row, and those of the rows behind the deeds.
        self.found = [form]
        # By how many bundles each of these rows has more behind the level than the old row.
        self.gains = []
        # Whether what was supposed of the rows ahead of the level can be so.
        self.fits = True
        # Whether each deed touches the level, if the row in which it is done has it.
        self.is_busy = True


class Course:
    """All nodes behind those with which plans can begin, and the steps between them, by numbers.

    A step is a triple of a node, the form of the old row, which is (0, 0) behind its end, and the next node.
    """

    def __init__(self, book, plans, mark_behind):
        """mark_behind tells for a mark and passages the mark behind them, or None if they do not matter."""
        self.nodes = _first_nodes(book, plans, mark_behind)
        self.begun = list(range(len(self.nodes)))
        self.steps = []
        numbers = {node: number for number, node in enumerate(self.nodes)}
        at = 0
        while at < len(self.nodes):
            followers = _followers(book, self.nodes[at], mark_behind)
            for node, form in followers.items():
                if node not in numbers:
                    numbers[node] = len(self.nodes)
                    self.nodes.append(node)
                self.steps.append((at, form, numbers[node]))
            if len(self.nodes) > MAX_NODES:
                raise TooMany(MAX_NODES)
            at += 1


def is_at_end(node):
    """Whether all rows have ended at a node, and nothing comes to a further level."""
    old, _, runs, _ = node
    return old == "" and all([pair == (0, 0) for _, deeds in runs for pair, _, _ in deeds])


def has_failed(run):
    """Whether a deed of a plan fails."""
    return run[0] in (FAILED, DOOMED)


def _first_nodes(book, plans, mark_behind):
    """The nodes with which the plans can begin, in rows with levels and in the empty one."""
    found = {}
    for state, known in ((book.reader.first, None), ("", 0)):
        for rest, passages in _supposed(lambda length: [_begun(book, plan, length) for plan in plans], known):
            _note_node(found, (state, rest), passages, mark_behind(False, passages), (0, 0))
    return list(found)


def _followers(book, node, mark_behind):
    """The nodes that follow from a node, each with the form of fewest bundles that leads there."""
    old, _, runs, mark = node
    found = {}
    for form, state, known in _readings(book, node):
        ended = (old == "", state == "")
        for rest, passages in _supposed(lambda left: [_passage(book, run, form, ended, left) for run in runs], known):
            _note_node(found, (state, rest), passages, mark_behind(mark, passages), form)
    return found


def _note_node(found, old, passages, mark, form):
    """Note the node behind passages, if it matters, with the form that leads there; old is a state and a rest."""
    if mark is not None and all([passage.fits for passage in passages]):
        runs = tuple([(passage.tail, tuple(passage.deeds)) for passage in passages])
        state, rest = old
        node = (state, rest if state == "" or any([_needs_rest(run) for run in runs]) else None, runs, mark)
        if node not in found or sum(form) < sum(found[node]):
            found[node] = form


def _needs_rest(run):
    """Whether what is known of a plan holds only if the old row has the rest that is supposed."""
    tail, deeds = run
    return tail == DOOMED or _ENDED in [state for _, _, state in deeds]


def _readings(book, node):
    """The triples of a form that the old row can have at a level, its state, and its rest, None if this is unknown."""
    old, rest, _, _ = node
    if is_at_end(node):
        return []
    if old == "":
        return [((0, 0), "", 0)]
    found = []
    for form, state in book.reader.onward(old):
        left = None if rest is None else rest - sum(form)
        if state in book.reader.ends and (left is None or left == 0):
            found.append((form, "", 0))
        if book.reader.goes_on(state) and (left is None or (left > 0 and left % book.arity == 0)):
            found.append((form, state, None if left is None else left // book.arity))
    return found


def _supposed(passages_with, known):
    """The pairs of a rest of the old row and the passages with it, for each rest that makes a difference.

    The rest is the number of its bundles behind the level, if it is not known already. passages_with tells the passages
    for a rest, and for None, which stands for all rests with which none of the other rows has ended.
    """
    if known is not None:
        return [(known, passages_with(known))]
    most = passages_with(None)
    # Another row ends where the old one has a rest that makes up for what is gained. The first one that does so passes
    # the level as with None, so its gain is among these.
    rests = sorted(set([-gain for passage in most for gain in passage.gains if gain < 0]))
    return [(None, most)] + [(rest, passages_with(rest)) for rest in rests]


def _begun(book, plan, rest):
    """The passage ahead of level 0, where the rest is the length of the old row."""
    passage = Passage(DONE, (0, 0))
    gain = 0
    has_ended = rest == 0
    for deed in plan:
        if has_ended and not is_put(deed):
            passage.tail = STOPPED
            return passage
        gain += sum(first_pair(deed))
        has_ended = rest is not None and rest + gain == 0
        passage.gains.append(gain)
        passage.found.append((0, 0))
        state = _ENDED if has_ended else book.reader.first
        passage.deeds.append((first_pair(deed), book.start_note(deed), state))
    return passage


def _passage(book, run, form, ended, rest):
    """How a run passes a level with a form of the old row; ended tells whether this ended ahead of it, and at it."""
    passage = Passage(run[0], form)
    gain = 0
    for pair, note, state in run[1]:
        result = _result(book, pair, note, passage.found[-1], ended)
        if result is None:
            passage.tail = FAILED
            return passage
        new, passed, after = result
        gain += sum(passed)
        passage.gains.append(gain)
        if not ended[0] and pair == (0, 0) and new == passage.found[-1]:
            passage.is_busy = False
        passage.found.append(new)
        # A deed that has nothing more to do needs no note.
        kept = "" if ended[1] and passed == (0, 0) else after
        left = None if rest is None else rest + gain
        if not _add_deed(book, passage, (passed, kept, state), new, left):
            return passage
        ended = (state == _ENDED, left == 0)
    return passage


def _result(book, pair, note, form, ended):
    """What the machine does at a level with a form, None if it breaks."""
    if ended[0] and pair == (0, 0):
        return (0, 0), (0, 0), ""
    where = "last" if ended[0] or ended[1] else "inner"
    return book.machine.result(note, where, (form[0] + pair[0], form[1] + pair[1]))


def _add_deed(book, passage, deed, new, left):
    """Add a deed with its state ahead of the level to a passage; whether those behind it must be followed, too.

    What is left is the number of bundles that its row has behind the level, None if it has not ended there.
    """
    passed, note, state = deed
    if left is not None and left < 0:
        # More is fetched than there is: the deed, or one ahead of it, breaks further in, so this row will not be.
        passage.tail = DOOMED
        return False
    if state == _ENDED:
        # There is nothing more, as no bundle is lost or made.
        passage.deeds.append(deed)
        return True
    if left == 0 and new == (0, 0):
        # Then it would have ended ahead of this level.
        passage.fits = False
        return False
    behind = book.reader.next_state(state, new)
    if behind == "" and new != (0, 0):
        # Whatever comes further in, this row is not right.
        passage.tail = FAILED
        return False
    if left == 0:
        is_right = behind in book.reader.ends
        state = _ENDED
    else:
        is_right = book.reader.goes_on(behind)
        state = behind if is_right else ""
    # A row that is not right is followed as long as it is only supposed to have ended, or to have more levels.
    passage.deeds.append((passed, note, state))
    if not is_right:
        passage.tail = FAILED
    return is_right
