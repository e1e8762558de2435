"""How many things lie on the workspace of a routine at most, by its code before it is a unit."""

from begunended.effects import COUNTS, FIXED, LEFT_COUNTS

# Orders that always leave one thing, and take none.
LEAVING = ("place", "handed", "hand")


def all_changes(plan):
    """The dict of how many things more each order leaves than it takes; calls by what they name, too."""
    changes = {word: len(leaves) - len(takes) for word, (takes, leaves) in FIXED.items()}
    for word, many in COUNTS.items():
        changes[word] = LEFT_COUNTS.get(word, 0) - many
    for word in LEAVING:
        changes[word] = 1
    changes["step"] = 0
    for telling, code in plan.codes.items():
        changes["call " + code.proc_name()] = change_by_call(telling)
    for telling in plan.headings:
        changes["callh " + plan.signature(telling)] = change_by_call(telling) - 1
    return changes


def change_by_call(telling):
    """How many things more a call of a routine leaves than it takes as arguments."""
    return (0 if telling.kind is None else 1) - len(telling.parameters)


def most_height(code, changes):
    """The most things that lie on the workspace at a row of a routine to which a way of rows leads."""
    heights = {}
    waiting = [(0, 0)] + [(code.label_rows[label], 0) for label in code.far_labels]
    while waiting:
        at, height = waiting.pop()
        while at not in heights:
            heights[at] = height
            row = code.rows[at]
            word = row[0]
            if word == "call" or word == "callh":
                word = word + " " + row[1]
            height += changes[word]
            at += 1
            if word == "unless":
                waiting.append((code.label_rows[row[1]], height))
            elif word == "jump":
                at = code.label_rows[row[1]]
            elif word == "table":
                waiting.extend([(code.label_rows[label], height) for label in row[2] if label is not None])
                break
            elif word == "leave" or word == "far":
                break
    return max(list(heights.values()))
