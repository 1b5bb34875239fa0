"""What deeds make of the things and notes of a desk.

A state is a tuple (things, notes) of dicts, never changed once it is told. A
thing stands as (sort, thing, kept), a note as (question, answer, kept): kept
is None of a thing that was not built, else the tuple of the things of which
it was built, or that were asked about, each as (name, sort, thing).
"""

from whichpaces.commands import answer_to, is_answer, is_thing, sorts_of_question, statement_of
from whichpaces.errors import TakenName, TakenNote, TooMany, UnfitAnswer, UnfitSort, UnfitThing
from whichpaces.errors import UnknownName, UnknownNote
from whichpaces.readers import read_machine, read_number, read_rounds, read_table
from whichpaces.ways import OF_TWO, WITH_MANY, built_of_one, built_of_two, built_with_many, sorts_of_way

MOST_THINGS = 20
MOST_NOTES = 20


def check_known(things, name):
    """Refuse what is not the name of a thing."""
    if not isinstance(name, str) or name not in things:
        raise UnknownName(name)


def check_noted(notes, label):
    """Refuse what is not the label of a note."""
    if not isinstance(label, str) or label not in notes:
        raise UnknownNote(label)


def kept_of(things, names, sorts):
    """The things of these names, to be kept, each of the sort that is wanted."""
    for name in names:
        check_known(things, name)
    for name, sort in zip(names, sorts):
        if things[name][0] != sort:
            raise UnfitSort(name)
    return tuple([(name,) + things[name][:2] for name in names])


def things_of(kept):
    """The things that are kept, without their names and sorts."""
    return [thing for _, _, thing in kept]


def status_of(things, kept):
    """The STATUS by what is kept: "own", "lost", "fresh" or "stale"."""
    if kept is None:
        return "own"
    if not all([name in things for name, _, _ in kept]):
        return "lost"
    if all([things[name][:2] == (sort, thing) for name, sort, thing in kept]):
        return "fresh"
    return "stale"


def thing_read(sort, text):
    """The thing of this SORT that the text tells."""
    if sort == "number":
        return read_number(text)
    if sort == "machine":
        return read_machine(text)
    if sort == "table":
        return read_table(text)
    return read_rounds(text)


def thing_built(things, command):
    """How the thing stands that a COMMAND "build" builds."""
    way = command[2]
    wanted, sort = sorts_of_way(way)
    if way in OF_TWO:
        kept = kept_of(things, command[3:], [wanted, wanted])
        return sort, built_of_two(way, kept[0][2], kept[1][2]), kept
    kept = kept_of(things, [command[3]], [wanted])
    if way in WITH_MANY:
        return sort, built_with_many(way, kept[0][2], command[4]), kept
    return sort, built_of_one(way, kept[0][2]), kept


def thing_made(things, command):
    """How the thing stands that a COMMAND puts on the desk."""
    word = command[0]
    if word == "build":
        return thing_built(things, command)
    _, _, sort, told = command
    if word == "read":
        return sort, thing_read(sort, told), None
    if not is_thing(sort, told):
        raise UnfitThing(told)
    return sort, told, None


def with_thing(state, command):
    """The state behind a new thing, and the thing."""
    things, notes = state
    name = command[1]
    if name in things:
        raise TakenName(name)
    made = thing_made(things, command)
    if len(things) == MOST_THINGS:
        raise TooMany("things", MOST_THINGS)
    return ({**things, name: made}, notes), made[1]


def without_thing(state, name):
    """The state without a thing, and the thing."""
    things, notes = state
    check_known(things, name)
    left = {other: things[other] for other in things if other != name}
    return (left, notes), things[name][1]


def kept_for(things, question):
    """The things that a QUESTION is about, to be kept."""
    return kept_of(things, question[1:], sorts_of_question(question))


def asked(state, question):
    """An answer to the QUESTION."""
    return answer_to(question, things_of(kept_for(state[0], question)))


def with_note(state, label, question, answer, kept):
    """The state behind a note, and what the note says."""
    things, notes = state
    if label not in notes and len(notes) == MOST_NOTES:
        raise TooMany("notes", MOST_NOTES)
    return (things, {**notes, label: (question, answer, kept)}), statement_of(question, answer)


def with_answer(state, label, question):
    """The state behind a note whose QUESTION is answered, and what it says."""
    kept = kept_for(state[0], question)
    return with_note(state, label, question, answer_to(question, things_of(kept)), kept)


def with_attached(state, label, question, answer):
    """The state behind a note with this answer, and what it says."""
    kept = kept_for(state[0], question)
    if not is_answer(question, things_of(kept), answer):
        raise UnfitAnswer(answer)
    return with_note(state, label, question, answer, kept)


def without_note(state, label):
    """The state without a note, and its answer."""
    things, notes = state
    left = {other: notes[other] for other in notes if other != label}
    return (things, left), notes[label][1]


def with_noted(state, command):
    """The state behind a COMMAND about a note, and what it returns."""
    word = command[0]
    label = command[1]
    notes = state[1]
    if word in ("note", "attach"):
        if label in notes:
            raise TakenNote(label)
        if word == "note":
            return with_answer(state, label, command[2])
        return with_attached(state, label, command[2], command[3])
    check_noted(notes, label)
    if word == "renew":
        return with_answer(state, label, notes[label][0])
    return without_note(state, label)


def done(state, command):
    """The state behind the COMMAND of a DEED, and what it returns."""
    word = command[0]
    if word in ("new", "read", "build"):
        return with_thing(state, command)
    if word == "drop":
        return without_thing(state, command[1])
    return with_noted(state, command)
