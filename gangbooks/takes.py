"""Takes: the amounts of machines that are used in spans of hours."""

from gangbooks.amounts import Amounts


def used_at(rows, hour, many):
    """Return the sum, for so many resources, of the takes that cover the hour."""
    numbers = [sum([row[3][k] for row in rows if row[1] <= hour < row[2]]) for k in range(many)]
    return Amounts(*numbers)


class Takes:
    """A list of takes (machine, start, end, numbers, template) on the machines of a cluster."""

    def __init__(self, cluster, rows):
        self.cluster = cluster
        self.rows = tuple(rows)

    def common(self, machine, span):
        """Return the takes of this machine that have a common hour with the span."""
        return [row for row in self.rows
                if row[0] == machine and max(row[1], span.start) < min(row[2], span.end)]

    def free(self, machine, span):
        """Return the row of the least free amounts of the machine in the hours of the span."""
        amounts = self.cluster.machines[machine].amounts
        rows = self.common(machine, span)
        least = amounts
        # Only where a take begins the free amounts can become less.
        for hour in sorted({max(row[1], span.start) for row in rows}):
            least = least & (amounts - used_at(rows, hour, len(amounts)))
        return least

    def users(self, machine, span):
        """Return the templates of the takes of this machine in the span, without those of no job."""
        return tuple(sorted({row[4] for row in self.common(machine, span) if row[4] != -1}))

    def ends(self):
        """Return the ascending list of the ends of the takes."""
        return sorted({row[2] for row in self.rows})

    def overfull(self):
        """Return the least (hour, machine, resource) whose free amount is negative, or None."""
        found = []
        for at, machine in enumerate(self.cluster.machines):
            rows = [row for row in self.rows if row[0] == at]
            for hour in sorted({row[1] for row in rows}):
                free = machine.amounts - used_at(rows, hour, len(machine.amounts))
                found.extend([(hour, at, k) for k, number in enumerate(free) if number < 0])
        return min(found, default=None)

    def __add__(self, other):
        return Takes(self.cluster, [*self.rows, *other])

    def __iter__(self):
        return iter(self.rows)
