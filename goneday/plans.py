"""The plan: when each paper goes, and what is there on a day."""

from goneday.goings import plan_looks, rows_of
from goneday.webs import comings, papers


def plan(deeds):
    """Tell for each paper in order the day on which it goes and the leave that it uses up."""
    rows = {}
    for row in rows_of(plan_looks(deeds)):
        rows[row[0]] = row
    return tuple([rows.get(name, (name, None, None)) for name in papers(deeds)])


def days_of(deeds):
    """Tell for each paper in order the day on which it goes by the plan, None where it never goes."""
    days = {}
    for paper, day, leave in plan(deeds):
        days[paper] = day
    return days


def there(deeds, day):
    """Tell the papers that are there on a day by the plan, in order."""
    days = days_of(deeds)
    come = [coming[2] for coming in comings(deeds) if coming[1] <= day]
    return tuple([name for name in come if days[name] is None or days[name] > day])
