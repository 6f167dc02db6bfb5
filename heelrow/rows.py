"""Rows in which the persons of a web stand, and calls, by which they step."""

from heelrow.bounds import MOST_CALLS
from heelrow.errors import Leads, NoCalls, NoRow, NoWeb
from heelrow.webs import Web


def check_web(web):
    """Refuse what is no Web."""
    if not isinstance(web, Web):
        raise NoWeb(None)


def first_wrong(web, things):
    """The number of the first that is no NAME of the web or stands ahead already, None where there is none."""
    for place, thing in enumerate(things):
        if not web.has(thing) or thing in things[:place]:
            return place
    return None


def check_row(web, row):
    """Refuse what is no ROW of the web."""
    if not isinstance(row, tuple):
        raise NoRow(None)
    place = first_wrong(web, row)
    if place is not None or len(row) < len(web):
        raise NoRow(place)


def follows(web, thing):
    """Whether a thing of any kind is a NAME of one who follows."""
    return web.has(thing) and web.whom(thing) is not None


def check_calls(web, calls):
    """Refuse what are no CALLS of the web."""
    if not isinstance(calls, tuple) or len(calls) > MOST_CALLS:
        raise NoCalls(None)
    for place, name in enumerate(calls):
        if not follows(web, name):
            raise NoCalls(place)


def stepped(web, row, name):
    """The ROW behind the call of NAME, who follows."""
    others = [other for other in row if other != name]
    at = others.index(web.whom(name)) + 1
    return (*others[:at], name, *others[at:])


def is_row(web, thing):
    """Whether a thing of any kind is a ROW of the web."""
    check_web(web)
    return isinstance(thing, tuple) and len(thing) == len(web) and first_wrong(web, thing) is None


def called(web, row, name):
    """The ROW in which NAME stands right behind whom they follow, all others in their turn."""
    check_web(web)
    check_row(web, row)
    web.check_name(name)
    if not follows(web, name):
        raise Leads(name)
    return stepped(web, row, name)


def done(web, row, calls):
    """The ROW behind all CALLS, one behind the other."""
    check_web(web)
    check_row(web, row)
    check_calls(web, calls)
    for name in calls:
        row = stepped(web, row, name)
    return row
