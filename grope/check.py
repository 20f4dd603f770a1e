"""Plans walked from a set of worlds: what comes to each row, and where a world goes wrong (point 23)."""

from grope.errors import Astray
from grope.known import after, parts
from grope.plans import Do, Look, Stop, rows_in
from grope.sets import least_of, without


def walked(errand, some, plan):
    chart = errand.chart()
    rows = rows_in(plan)
    check_names(chart, rows)
    come = []
    for one, above, answer in rows:
        here = some if above is None else led_on(chart, rows[above][0], answer, come[above])
        check_row(errand, len(come), one, here)
        come.append(here)
    return come


def does(errand, some, plan):
    try:
        walked(errand, some, plan)
    except Astray:
        return False
    return True


def check_names(chart, rows):
    for row in rows:
        if isinstance(row[0], Do):
            chart.check_deed(row[0].deed)
        if isinstance(row[0], Look):
            chart.check_look(row[0].look)


def led_on(chart, one, answer, some):
    if isinstance(one, Do):
        return after(chart, one.deed, some)
    return dict(parts(chart, one.look, some)).get(answer, 0)


def check_row(errand, number, one, some):
    wrong = [(least_of(worlds), why) for why, worlds in faults(errand, one, some) if worlds != 0]
    if len(wrong) > 0:
        # Of several whys of one world the first stays, as they stand in the order in which they are asked.
        first = min(wrong, key=lambda fault: fault[0])
        raise Astray(number, first[0], first[1])


def faults(errand, one, some):
    chart = errand.chart()
    found = [("keep", without(some, errand.keep()))]
    if isinstance(one, Stop):
        found.append(("goal", without(some, errand.goal())))
    if isinstance(one, Do):
        found.append(("cannot", without(some, chart.doable(one.deed))))
    if isinstance(one, Look):
        found.append(("cannot", without(some, chart.doable(one.look))))
        found.append(("answer", without(some, answered(chart, one))))
    return found


def answered(chart, one):
    answers = dict(one.ways())
    found = 0
    for answer, tellers in chart.answer_sets(one.look):
        if answer in answers:
            found = found | tellers
    return found
