"""Webs read from their texts."""

from heelrow.bounds import MOST_PERSONS
from heelrow.errors import NoText, NoWeb
from heelrow.webs import Web, is_name


def person_of(row):
    """(NAME, WHOM) of a row of a web's text, None where it isn't so written."""
    parts = row.split(" > ")
    if len(parts) > 2 or not all([is_name(part) for part in parts]):
        return None
    return (parts[0], parts[1] if len(parts) == 2 else None)


def persons_of(text):
    """The PERSONS of a text, refused where a row isn't so written, doesn't rise, or is a thirteenth."""
    persons = []
    ahead = ""
    for number, row in enumerate(text.split("\n")):
        person = person_of(row)
        if person is None or person[0] <= ahead or number >= MOST_PERSONS:
            raise NoText(number)
        persons.append(person)
        ahead = person[0]
    return tuple(persons)


def read_web(text):
    """The web whose text this is."""
    if not isinstance(text, str):
        raise NoText(0)
    persons = persons_of(text)
    try:
        return Web(persons)
    except NoWeb as e:
        raise NoText(e.place) from None
