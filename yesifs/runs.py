"""Runs over several sites: whether one serial order fits all of them, and certificates for it."""

from yesifs.checks import are_transactions, is_number
from yesifs.errors import BadCompletion, BadRun, BadSite
from yesifs.facts import are_facts, closed, firm_by, named_by
from yesifs.judge import first_faults
from yesifs.moments import Moment, happen, is_possible
from yesifs.sites import all_choices
from yesifs.tables import check_table
from yesifs.words import is_cleared, ring_in, serial_order, supports_at


class Course:
    """A run after some events: the moments of its sites, and the fact of each transaction of which one was heard."""

    def __init__(self, table):
        self.moments = [Moment(table) for _ in range(4)]
        self.heard = {}


def is_site(thing):
    """Whether thing is the number of a site."""
    return is_number(thing) and 0 <= thing <= 3


def joint_conditions(course, t):
    """The ascending tuple of the conditions of all votes for t; None if a vote is missing or "no", or t has no step."""
    visited = [moment for moment in course.moments if t in moment.steps_of]
    if not visited or any([t in moment.no for moment in course.moments]):
        return None
    if not all([t in moment.yes for moment in visited]):
        return None
    return tuple(sorted(set([u for moment in visited for u in moment.yes[t]])))


def is_firm(course, t):
    """Whether a fact "firm" of t was heard at some site."""
    return t in course.heard and course.heard[t][0] == "firm"


def may_tell(course, fact):
    """Whether a fact that can be heard at a site can be heard in the run, too."""
    if fact[1] in course.heard:
        return course.heard[fact[1]] == fact
    return fact[0] == "dropped" or fact[2] == joint_conditions(course, fact[1])


def may_occur(course, event):
    """Whether an event that is possible at its site is possible in the run, too."""
    if event[0] == "hear":
        return may_tell(course, event[1])
    # The votes for a firm transaction are complete: nothing may be added to what they are for.
    return event[0] not in ("do", "no") or not is_firm(course, event[1])


def occur(course, s, event):
    """Let a possible event happen at the site s."""
    happen(course.moments[s], event)
    if event[0] == "hear":
        course.heard[event[1][1]] = event[1]


def course_of(table, run):
    """The course of a run, or None for any value that is not a run."""
    if not isinstance(run, tuple):
        return None
    course = Course(table)
    for part in run:
        if not isinstance(part, tuple) or len(part) != 2 or not is_site(part[0]):
            return None
        s, event = part
        if not is_possible(course.moments[s], event) or not may_occur(course, event):
            return None
        occur(course, s, event)
    return course


def checked_course(table, run):
    """The course of a run; raises the error for what is not a table, or not a run."""
    check_table(table)
    course = course_of(table, run)
    if course is None:
        raise BadRun(run)
    return course


def is_run(table, thing):
    """Whether thing is a run."""
    check_table(table)
    return course_of(table, thing) is not None


def history_at(run, s):
    """The history of the site s."""
    return tuple([event for site, event in run if site == s])


def site_history(table, run, s):
    """The history of the site s, () if the run has no event there."""
    checked_course(table, run)
    if not is_site(s):
        raise BadSite(s)
    return history_at(run, s)


def heard_facts(course):
    """The facts of the run."""
    return tuple([course.heard[t] for t in sorted(course.heard)])


def facts_of(table, run):
    """The facts that were heard at some site."""
    return heard_facts(checked_course(table, run))


def facts_for(course, t):
    """The list of the facts that a completion can have for t."""
    if t in course.heard:
        return [course.heard[t]]
    conditions = joint_conditions(course, t)
    return [("dropped", t)] if conditions is None else [("dropped", t), ("firm", t, conditions)]


def choices_of(course):
    """A dict of the list of the possible facts for each transaction of the completions, ascending."""
    # A condition of a vote has steps at the site of the vote.
    performing = [t for moment in course.moments for t in moment.steps_of]
    named = sorted(set(performing + named_by(heard_facts(course))))
    return {t: facts_for(course, t) for t in named}


def completions_at(course):
    """The ascending list of the completions."""
    return sorted(all_choices(list(choices_of(course).values())))


def completions(table, run):
    """The ascending tuple of the completions of the run."""
    return tuple(completions_at(checked_course(table, run)))


def check_completion(course, thing):
    """Raise BadCompletion for what is not a completion."""
    choices = choices_of(course)
    if not are_facts(thing) or [fact[1] for fact in thing] != list(choices):
        raise BadCompletion(thing)
    if not all([fact in choices[fact[1]] for fact in thing]):
        raise BadCompletion(thing)


def judged_course(table, run, completion):
    """The course of the run; raises the error for what is not a table, a run, or a completion of it."""
    course = checked_course(table, run)
    check_completion(course, completion)
    return course


def helpers_of(course):
    """The list with the dict of the supporters for each site."""
    return [supports_at(moment) for moment in course.moments]


def earlier_among(helpers, kept):
    """A dict of those of the kept transactions that support each kept one at some of the sites with these helpers."""
    return {u: [t for local in helpers for t in local.get(u, ()) if t in kept] for u in kept}


def is_serial_at(course, helpers, kept, s):
    """Whether the settled word of the site s is the serial word of its kept transactions in some order."""
    return is_cleared(course.moments[s], kept) and serial_order(earlier_among([helpers[s]], kept)) is not None


def judge_course(course, helpers, kept):
    """A certificate for the run and the completion with these kept transactions."""
    for s in range(4):
        if not is_serial_at(course, helpers, kept, s):
            return ("site", s)
    earlier = earlier_among(helpers, kept)
    order = serial_order(earlier)
    return ("ring", ring_in(earlier)) if order is None else ("serial", tuple(order))


def kept_in(completion):
    """A dict of True for the transactions that a completion keeps."""
    return closed(firm_by(completion), [])


def judge_run(table, run, completion):
    """A certificate for the run and the completion."""
    course = judged_course(table, run, completion)
    return judge_course(course, helpers_of(course), kept_in(completion))


def is_order(course, kept, thing):
    """Whether thing is an order of the kept transactions that fits all sites."""
    if not are_transactions(thing) or sorted(thing) != sorted(kept):
        return False
    earlier = earlier_among(helpers_of(course), kept)
    if not all([t in thing[:at] for at, u in enumerate(thing) for t in earlier[u]]):
        return False
    return all([is_cleared(moment, kept) for moment in course.moments])


def is_ring(course, kept, thing):
    """Whether thing is a tuple of different kept transactions, each before the next one at some site."""
    if not are_transactions(thing) or len(thing) < 2 or len(set(thing)) != len(thing):
        return False
    if not all([t in kept for t in thing]):
        return False
    earlier = earlier_among(helpers_of(course), kept)
    return all([t in earlier[u] for t, u in zip(thing, thing[1:] + thing[:1])])


def run_holds(table, run, completion, thing):
    """Whether thing is a certificate for the run and the completion."""
    course = judged_course(table, run, completion)
    kept = kept_in(completion)
    if not isinstance(thing, tuple) or len(thing) != 2:
        return False
    if thing[0] == "site":
        return is_site(thing[1]) and not is_serial_at(course, helpers_of(course), kept, thing[1])
    if thing[0] == "serial":
        return is_order(course, kept, thing[1])
    return thing[0] == "ring" and is_ring(course, kept, thing[1])


def is_right_run(table, run):
    """Whether for each completion one order of the kept transactions fits all sites."""
    course = checked_course(table, run)
    helpers = helpers_of(course)
    return all([judge_course(course, helpers, kept_in(completion))[0] == "serial"
                for completion in completions_at(course)])


def are_sites_right(table, run):
    """Whether the history of each site is right at every moment."""
    checked_course(table, run)
    return all([first_faults(table, history_at(run, s))[0] is None for s in range(4)])
