"""The console: a room by lines."""

from labelmoves.errors import Broken, InvalidNumber, InvalidStep, InvalidText, NothingToUndo, TooLong
from labelmoves.figures import read_number, written_number
from labelmoves.houses import spaced
from labelmoves.lengths import first_doubled, first_missed, stretch
from labelmoves.rooms import Room
from labelmoves.steps import is_like_step, read_step


def frame_or(frame, word):
    """The figures of the frame, the word if there is none."""
    return word if frame is None else written_number(frame)


def pair_line(numbers):
    """Both numbers with a space between."""
    return f"{written_number(numbers[0])} {written_number(numbers[1])}"


def value_line(move, number):
    """The value for this frame."""
    return frame_or(move.of(number), "lost")


def label_line(move, number):
    """The text of the label of this frame in the first house."""
    return move.houses[0].written(number)


def stretch_line(move, number):
    """The least and the greatest length that so many frames take."""
    return pair_line(stretch(move, number))


def first_line(move):
    """The first frame."""
    return written_number(move.first)


def missed_line(move):
    """The first missed frame."""
    return frame_or(first_missed(move), "none")


def doubled_line(move):
    """The first doubled frame."""
    return frame_or(first_doubled(move), "none")


def round_line(move):
    """The round."""
    return pair_line(move.round)


def move_line(move):
    """The lines of the steps."""
    return " / ".join([spaced(step) for step in move.steps]) if move.steps else "-"


# What is asked with a number behind the word, and what is asked with the word alone.
NUMBERED = {"value": value_line, "label": label_line, "stretch": stretch_line}
ALONE = {
    "first": first_line,
    "missed": missed_line,
    "doubled": doubled_line,
    "round": round_line,
    "move": move_line,
}


def answer_to(move, words):
    """The answer to the question that the words ask, None if they ask none."""
    word, *others = words
    if word in ALONE and len(others) == 0:
        tell = ALONE[word]
        return tell(move)
    if word in NUMBERED and len(others) == 1:
        number = read_number(others[0])
        tell = NUMBERED[word]
        return None if number is None else tell(move, number)
    return None


def read_change(words):
    """The change of the room that the words tell, as a tuple; None if they tell none."""
    if words in (["undo"], ["wish", "full"], ["wish", "single"]):
        return tuple(words)
    if words[0] == "add":
        step = read_step(words[1:])
        return ("add", step) if is_like_step(step) else None
    if words[0] == "put" and len(words) > 1:
        index = read_number(words[1])
        step = read_step(words[2:])
        return ("put", index, step) if index is not None and is_like_step(step) else None
    return None


def do_change(room, change):
    """Do the change at the room."""
    word = change[0]
    if word == "put":
        room.put(change[1], change[2])
    elif word == "add":
        room.add(change[1])
    elif word == "wish":
        room.wish(change[1:])
    else:
        room.undo()


class Console:
    """A room that is asked and changed by lines."""

    def __init__(self, move):
        self._room = Room(move)

    def say(self, line):
        """The answer to the line."""
        if not isinstance(line, str):
            raise InvalidText(line)
        words = line.split(" ")
        change = read_change(words)
        if change is not None:
            return self._changed(change)
        answer = answer_to(self._room.move, words)
        if answer is None:
            raise InvalidText(line)
        return answer

    def _changed(self, change):
        """Do the change; the answer is the name of the error's class if there is one."""
        try:
            do_change(self._room, change)
        except InvalidNumber:
            return "InvalidNumber"
        except InvalidStep:
            return "InvalidStep"
        except NothingToUndo:
            return "NothingToUndo"
        except TooLong:
            return "TooLong"
        except Broken:
            return "Broken"
        return "ok"
