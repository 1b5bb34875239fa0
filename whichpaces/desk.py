"""A desk: things, notes of questions about them, and a log that is undone and done again."""

from whichpaces.commands import DEEDS, SORTS, is_command, statement_of
from whichpaces.deeds import asked, check_known, check_noted, done, status_of
from whichpaces.errors import CommandFailed, InvalidCommand, LimitError, MissingError, NothingToRedo, NothingToUndo
from whichpaces.errors import PaceError, StateError, TooMany

MOST_DEEDS = 60


class Desk:
    """Things and notes by their names and labels, and the deeds that stand.

    A state is what whichpaces.deeds tells of it; a deed that stands is kept
    with the state ahead of it, one that was taken back with the state behind.
    """

    def __init__(self):
        self._state = ({}, {})
        self._deeds = []
        self._undone = []

    def do(self, command):
        """Do the command, and return what it returns."""
        if not is_command(command):
            raise InvalidCommand(command)
        word = command[0]
        if word in DEEDS:
            return self._do_deed(command)
        if word == "undo":
            return self._undo()
        if word == "redo":
            return self._redo()
        return asked(self._state, command[1])

    def _do_deed(self, command):
        """Do a deed."""
        state, told = done(self._state, command)
        if len(self._deeds) == MOST_DEEDS:
            raise TooMany("deeds", MOST_DEEDS)
        self._deeds.append((command, self._state))
        self._undone = []
        self._state = state
        return told

    def _undo(self):
        """Take back the last deed that stands."""
        if not self._deeds:
            raise NothingToUndo()
        command, state = self._deeds.pop()
        self._undone.append((command, self._state))
        self._state = state
        return command

    def _redo(self):
        """Do the deed again that was taken back last."""
        if not self._undone:
            raise NothingToRedo()
        command, state = self._undone.pop()
        self._deeds.append((command, self._state))
        self._state = state
        return command

    def do_all(self, commands):
        """Do all commands, and return the list of what they return; nothing is changed if one raises an error."""
        state = self._state
        deeds = list(self._deeds)
        undone = list(self._undone)
        told = []
        for position, command in enumerate(commands):
            try:
                told.append(self.do(command))
            except (PaceError, MissingError, StateError, LimitError):
                self._state = state
                self._deeds = deeds
                self._undone = undone
                raise CommandFailed(position)
        return told

    @property
    def names(self):
        """The rising list of the names of the things."""
        return sorted(self._state[0])

    @property
    def labels(self):
        """The rising list of the labels of the notes."""
        return sorted(self._state[1])

    @property
    def log(self):
        """The list of the commands of the deeds that stand."""
        return [command for command, _ in self._deeds]

    @property
    def sums(self):
        """How many things of each sort, notes of each statement, and what is stale or lost."""
        things, notes = self._state
        sorts = [sort for sort, _, _ in list(things.values())]
        said = [statement_of(question, answer) for question, answer, _ in list(notes.values())]
        kept = [entry[2] for entry in list(things.values()) + list(notes.values())]
        statuses = [status_of(things, told) for told in kept]
        many = [sorts.count(sort) for sort in SORTS] + [said.count("yes"), said.count("no")]
        return tuple(many + [statuses.count("stale") + statuses.count("lost")])

    def thing(self, name):
        """The thing of this name."""
        check_known(self._state[0], name)
        return self._state[0][name][1]

    def sort_of(self, name):
        """The sort of the thing of this name."""
        check_known(self._state[0], name)
        return self._state[0][name][0]

    def name_status(self, name):
        """The status of the thing of this name."""
        things, _ = self._state
        check_known(things, name)
        return status_of(things, things[name][2])

    def note(self, label):
        """The question and the answer of the note of this label."""
        check_noted(self._state[1], label)
        question, answer, _ = self._state[1][label]
        return question, answer

    def statement(self, label):
        """What the note of this label says."""
        question, answer = self.note(label)
        return statement_of(question, answer)

    def note_status(self, label):
        """The status of the note of this label."""
        things, notes = self._state
        check_noted(notes, label)
        return status_of(things, notes[label][2])

    @staticmethod
    def again(commands):
        """A new desk behind all commands of a LOG."""
        desk = Desk()
        desk.do_all(commands)
        return desk
