"""Names, questions and commands of a desk, and what answers a question."""

from whichpaces.along import along, is_along, is_not_behind, not_behind
from whichpaces.between import is_between, paces_compared, ratio_between
from whichpaces.deciding import beatless_paper, is_beatless_paper, is_paper, paper_of
from whichpaces.errors import InvalidQuestion
from whichpaces.hubpapers import beatless_hub_paper, hub_paper, is_beatless_hub_paper, is_hub_paper
from whichpaces.hubs import is_rounds
from whichpaces.judges import has_word
from whichpaces.machines import is_machine
from whichpaces.tables import is_table
from whichpaces.told import is_told
from whichpaces.tops import check_pair
from whichpaces.ways import OF_ONE, OF_TWO, WITH_MANY

LETTERS = "abcdefghijklmnopqrstuvwxyz"
LETTERS_AND_FIGURES = "abcdefghijklmnopqrstuvwxyz0123456789"
MOST_SIGNS = 8
SORTS = ("number", "machine", "table", "rounds")
ABOUT_A_NUMBER = ("pace", "beatless", "hub", "beatlesshub")
ABOUT_TABLES = ("along", "behind")
# What an answer that says "yes" begins with.
WORDS_OF_YES = ("machine", "hub", "along", "behind")
DEEDS = ("new", "read", "drop", "build", "note", "attach", "renew", "forget")


def is_name(value):
    """Whether the value is a NAME."""
    if not isinstance(value, str) or not 1 <= len(value) <= MOST_SIGNS:
        return False
    return value[0] in LETTERS and all([sign in LETTERS_AND_FIGURES for sign in value])


def is_question(value):
    """Whether the value is a QUESTION."""
    if not isinstance(value, tuple) or len(value) < 2 or not isinstance(value[0], str):
        return False
    if not all([is_name(name) for name in value[1:]]):
        return False
    if value[0] in ABOUT_A_NUMBER:
        return len(value) == 2
    return value[0] in ABOUT_TABLES and len(value) == 3


def check_question(value):
    """Refuse what is no QUESTION."""
    if not is_question(value):
        raise InvalidQuestion(value)


def is_sort(value):
    """Whether the value is a SORT."""
    return isinstance(value, str) and value in SORTS


def is_build(value):
    """Whether a tuple behind its first word tells what is built, and in which WAY."""
    if len(value) not in (4, 5) or not is_name(value[1]) or not is_name(value[3]):
        return False
    way = value[2]
    if not isinstance(way, str):
        return False
    if len(value) == 4:
        return way in OF_ONE
    return way in WITH_MANY or (way in OF_TWO and is_name(value[4]))


def is_about_a_thing(value):
    """Whether a tuple that begins with a word is a COMMAND about a thing."""
    word = value[0]
    if word in ("new", "read"):
        return len(value) == 4 and is_name(value[1]) and is_sort(value[2])
    if word == "drop":
        return len(value) == 2 and is_name(value[1])
    return word == "build" and is_build(value)


def is_about_a_note(value):
    """Whether a tuple that begins with a word is a COMMAND about a note."""
    word = value[0]
    if word in ("renew", "forget"):
        return len(value) == 2 and is_name(value[1])
    if word == "note":
        return len(value) == 3 and is_name(value[1]) and is_question(value[2])
    return word == "attach" and len(value) == 4 and is_name(value[1]) and is_question(value[2])


def is_command(value):
    """Whether the value is a COMMAND."""
    if not isinstance(value, tuple) or not value or not isinstance(value[0], str):
        return False
    word = value[0]
    if word in ("undo", "redo"):
        return len(value) == 1
    if word == "ask":
        return len(value) == 2 and is_question(value[1])
    return is_about_a_thing(value) or is_about_a_note(value)


def is_desk_deed(value):
    """Whether the value is the COMMAND of a DEED."""
    return is_command(value) and value[0] in DEEDS


def is_thing(sort, value):
    """Whether the value is a THING of this SORT."""
    if sort == "number":
        return is_told(value)
    if sort == "machine":
        return is_machine(value)
    if sort == "table":
        return is_table(value)
    return is_rounds(value)


def sorts_of_question(question):
    """The sorts of the things that a QUESTION wants, one for each of its names."""
    if question[0] in ABOUT_A_NUMBER:
        return ["number"]
    return ["table", "table"]


def paper_to(word, number):
    """The paper that answers a QUESTION of this word about the NUMBER."""
    if word == "pace":
        return paper_of(number)
    if word == "beatless":
        return beatless_paper(number)
    if word == "hub":
        return hub_paper(number)
    return beatless_hub_paper(number)


def frame_to(word, table, other):
    """The frame that answers a QUESTION of this word about two TABLES; None if there is none."""
    if word == "along":
        return along(table, other)
    return not_behind(table, other)


def answer_to(question, things):
    """An answer to the QUESTION about the things."""
    check_question(question)
    word = question[0]
    if word in ABOUT_A_NUMBER:
        return paper_to(word, things[0])
    frame = frame_to(word, things[0], things[1])
    if frame is None:
        return "between", ratio_between(things[0], things[1])
    return word, frame


def is_paper_to(word, number, value):
    """Whether the value is a paper that answers a QUESTION of this word about the NUMBER."""
    if word == "pace":
        return is_paper(number, value)
    if word == "beatless":
        return is_beatless_paper(number, value)
    if word == "hub":
        return is_hub_paper(number, value)
    return is_beatless_hub_paper(number, value)


def is_answer_of_two(word, table, other, value):
    """Whether the value answers a QUESTION of this word about two TABLES."""
    check_pair(table, other)
    if has_word(value, "between", 2):
        # That the first pace is at most the other one is denied by the greater one alone.
        return is_between(table, other, value[1]) and (word == "along" or paces_compared(table, other) == 1)
    if not has_word(value, word, 2):
        return False
    if word == "along":
        return is_along(table, other, value[1])
    return is_not_behind(table, other, value[1])


def is_answer(question, things, value):
    """Whether the value is an answer to the QUESTION about the things."""
    check_question(question)
    word = question[0]
    if word in ABOUT_A_NUMBER:
        return is_paper_to(word, things[0], value)
    return is_answer_of_two(word, things[0], things[1], value)


def statement_of(question, value):
    """What an answer to the QUESTION says: "yes" or "no"."""
    check_question(question)
    return "yes" if value[0] in WORDS_OF_YES else "no"
