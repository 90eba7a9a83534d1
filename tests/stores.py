"""Stores for the tests: fresh ones, plain folds of what was added, and deeds by chance."""

from heldpasts.disk import Disk
from heldpasts.pages import fresh_image, head_text
from heldpasts.store import Store


def fresh_disk(pages=30, log_blocks=8, signs=200, steps=None):
    return Disk(fresh_image(pages, log_blocks, signs), signs, steps)


def fresh_store(pages=30, log_blocks=8, signs=200, steps=None):
    return Store(fresh_disk(pages, log_blocks, signs, steps))


def image_of(head, pages=(), log=(), log_blocks=4):
    """An image of a head, the blocks of its pages and those of its log, by hand."""
    blocks = list(pages) + [""] * (head[5] - len(pages)) + list(log) + [""] * (log_blocks - len(log))
    return (head_text(head), "") + tuple(blocks)


def pasts_of(records):
    """The list of all pasts, as dictionaries, that records lead through: each plainly laid over the one before."""
    pasts = [{}]
    for record in records:
        if record[0] == "C":
            past = dict(pasts[-1])
            for key, value in record[1]:
                past.pop(key, None)
                if value is not None:
                    past[key] = value
            pasts.append(past)
    return pasts


def fold(records):
    """The meaning of ("C", changes, marks), ("M", marks) and ("W", least), read from the words of the document."""
    least, commits, marks = 0, [], {}
    for record in records:
        if record[0] == "W":
            least = record[1]
        else:
            if record[0] == "C":
                commits.append(dict(record[1]))
            for name, text in record[-1]:
                marks[name] = text
    keys = []
    for key in sorted({key for changes in commits for key in changes}):
        versions = [(at + 1, changes[key]) for at, changes in enumerate(commits) if key in changes]
        seen = []
        for past in range(least, len(commits) + 1):
            seen += [version for version in versions if version[0] <= past][-1:]
        versions = tuple(version for version in versions if version in seen)
        if versions and versions[0][0] <= least and versions[0][1] is None:
            versions = versions[1:]
        if versions:
            keys.append((key, versions))
    return least, len(commits), tuple(keys), tuple(sorted(mark for mark in marks.items() if mark[1] is not None))


def changes_by_chance(chance, many, keys="abcdefgh !"):
    """Changes of up to so many keys."""
    picked = sorted({chance.choice(keys) * chance.randrange(3) for _ in range(chance.randrange(many + 1))})
    return tuple((key, None if chance.randrange(4) == 0 else str(chance.randrange(100))) for key in picked)


def choice_by_chance(chance, disk):
    """One choice of what lands of the blocks that wait: all, none, or each by chance."""
    many = [0] * len(disk.image)
    for index, _ in disk.pending:
        many[index] += 1
    mood = chance.randrange(4)
    if mood == 0:
        return tuple(0 for _ in many)
    if mood == 1:
        return tuple(many)
    return tuple(chance.randrange(top + 1) for top in many)
