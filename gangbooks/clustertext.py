"""The text of a cluster, one line for each entry."""

from gangbooks.cluster import Cluster
from gangbooks.errors import BadLine, BadRow
from gangbooks.signs import is_number

MOST_DIGITS = 4
# In the form of a line, ANY stands for any word and NUMBER for an integer; another word stands for itself.
ANY = "*"
NUMBER = "#"


def cluster_text(cluster):
    """Return the text of a cluster."""
    resources, machines, groups, templates = cluster.entries()
    lines = [line_of("resources", resources)]
    for name, zone, labels, numbers in machines:
        lines.append(line_of("machine", [name, "zone", zone, "has", *numbers] + headed("labels", labels)))
    for name, parent, weight, floor, limit in groups:
        tail = [] if limit is None else ["limit", *limit]
        lines.append(line_of("group", [name, "under", parent or "-", "weight", weight, "floor", *floor, *tail]))
    for name, group, rank, every, stages, wishes in templates:
        words = [name, "group", group, "rank", rank, "every", every]
        for tasks, numbers, hours in stages:
            words.extend(["stage", tasks, "of", *numbers, "for", hours])
        lines.append(line_of("template", words + headed("wishes", wishes)))
    return "\n".join(lines)


def line_of(head, words):
    """Return the line of these words and integers behind their head."""
    texts = [str(word) for word in words]
    return " ".join([head, *texts])


def headed(head, words):
    """Return the words behind their head, or nothing if there are none."""
    return [head, *words] if words else []


def word_fits(word, place):
    """Tell whether a word may stand at a place of a form."""
    if place == NUMBER:
        return is_number(word, MOST_DIGITS)
    return place == ANY or word == place


def has_form(words, form):
    """Tell whether there is a word for each place of the form, and each fits."""
    return len(words) == len(form) and all([word_fits(word, place) for word, place in zip(words, form)])


def is_tail(words, head):
    """Tell whether words are none at all, or at least one behind this head."""
    return not words or (words[0] == head and len(words) > 1)


def integers(words):
    """Return the tuple of the integers that the words stand for."""
    return tuple([int(word) for word in words])


def machine_row(words, many):
    """Return the row of a line of a machine, or None if it has another form."""
    form = ["machine", ANY, "zone", ANY, "has"] + [NUMBER] * many
    tail = words[len(form):]
    if not has_form(words[:len(form)], form) or not is_tail(tail, "labels"):
        return None
    return words[1], words[3], tuple(tail[1:]), integers(words[5:len(form)])


def group_row(words, many):
    """Return the row of a line of a group, or None if it has another form."""
    form = ["group", ANY, "under", ANY, "weight", NUMBER, "floor"] + [NUMBER] * many
    tail = words[len(form):]
    if not has_form(words[:len(form)], form):
        return None
    if tail and not has_form(tail, ["limit"] + [NUMBER] * many):
        return None
    parent = "" if words[3] == "-" else words[3]
    limit = integers(tail[1:]) if tail else None
    return words[1], parent, int(words[5]), integers(words[7:len(form)]), limit


def template_row(words, many):
    """Return the row of a line of a template, or None if it has another form."""
    form = ["template", ANY, "group", ANY, "rank", NUMBER, "every", NUMBER]
    if not has_form(words[:len(form)], form):
        return None
    tail = words[len(form):]
    form = ["stage", NUMBER, "of"] + [NUMBER] * many + ["for", NUMBER]
    stages = []
    while has_form(tail[:len(form)], form):
        stages.append((int(tail[1]), integers(tail[3:3 + many]), int(tail[4 + many])))
        tail = tail[len(form):]
    if not is_tail(tail, "wishes"):
        return None
    return words[1], words[3], int(words[5]), int(words[7]), tuple(stages), tuple(tail[1:])


# The lines behind the first one, by their first word, in the order in which they stand.
READERS = {"machine": machine_row, "group": group_row, "template": template_row}
PARTS = ("machine", "group", "template")


def row_of(words, many):
    """Return the row of a line behind the first one, or None if it has none of the forms."""
    if "" in words or words[0] not in READERS:
        return None
    reader = READERS[words[0]]
    return reader(words, many)


def read_cluster(text):
    """Return the cluster with this text; BadLine tells its first wrong line."""
    first, *lines = [line.split(" ") for line in text.split("\n")]
    if first[0] != "resources" or "" in first:
        raise BadLine(1)
    rows = {"machine": [], "group": [], "template": []}
    # The line of each entry, as BadRow names the entries; one without resources is in the first line, too.
    numbers = {("resources", at): 1 for at in range(len(first))}
    latest = 0
    for number, words in enumerate(lines, start=2):
        row = row_of(words, len(first) - 1)
        if row is None or PARTS.index(words[0]) < latest:
            raise BadLine(number)
        latest = PARTS.index(words[0])
        numbers[(words[0] + "s", len(rows[words[0]]))] = number
        rows[words[0]].append(row)
    try:
        return Cluster(first[1:], rows["machine"], rows["group"], rows["template"])
    except BadRow as e:
        raise BadLine(numbers.get(e.subject, 0)) from e
