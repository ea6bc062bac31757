"""The console: commands as strings, and sessions by name."""

from leakyqueue.counting import program_count
from leakyqueue.effects import Effect
from leakyqueue.errors import InvalidCommand, LimitExceeded, ParseError, UnknownName
from leakyqueue.exchanges import distance, normal_program
from leakyqueue.formats import effect_text, parse_set, read_number, read_program, read_word, set_text, steps_text
from leakyqueue.names import is_name
from leakyqueue.powers import most_repetitions, power_core
from leakyqueue.results import best_result
from leakyqueue.separation import separating_queue
from leakyqueue.session import Session
from leakyqueue.sets import image

MAX_SESSIONS = 8


def answer_best(program, queue):
    """Answer the command best."""
    result = best_result(program, queue)
    return "fails" if result is None else steps_text(result)


def answer_effect(program):
    """Answer the command effect."""
    return effect_text(Effect.of(program))


def answer_same(first, second):
    """Answer the command same."""
    queue = separating_queue(first, second)
    return "yes" if queue is None else f"no {steps_text(queue)}"


def answer_normal(program):
    """Answer the command normal."""
    return steps_text(normal_program(program))


def answer_distance(first, second):
    """Answer the command distance."""
    fewest = distance(first, second)
    return "none" if fewest is None else str(fewest)


def answer_core(program, exponent):
    """Answer the command core."""
    return str(power_core(program, exponent))


def answer_repeat(program, queue):
    """Answer the command repeat."""
    most = most_repetitions(program, queue)
    return "unlimited" if most is None else str(most)


def answer_count(program):
    """Answer the command count."""
    return str(program_count(Effect.of(program)))


def answer_image(program, queues):
    """Answer the command image."""
    return set_text(image(queues, program))


def session_of(sessions, name):
    """Return the session of this name."""
    if name not in sessions:
        raise UnknownName(name)
    return sessions[name]


def start_session(sessions, name, queue):
    """Answer the command open."""
    if name not in sessions and len(sessions) >= MAX_SESSIONS:
        raise LimitExceeded(MAX_SESSIONS)
    sessions[name] = Session(queue)
    return "ok"


def end_session(sessions, name):
    """Answer the command close."""
    session_of(sessions, name)
    del sessions[name]
    return "ok"


def run_session(sessions, name, program):
    """Answer the command run."""
    return str(session_of(sessions, name).run(program))


def undo_session(sessions, name):
    """Answer the command undo."""
    return session_of(sessions, name).undo()


def show_session(sessions, name):
    """Answer the command show."""
    session = session_of(sessions, name)
    return f"{steps_text(session.word)} {steps_text(session.program)}"


def list_sessions(sessions):
    """Answer the command names."""
    return steps_text(" ".join(sorted(sessions)))


def read_set(part):
    """Return the set that a part of a command denotes, or None."""
    try:
        return parse_set(part)
    except ParseError:
        return None


def read_part(form, part):
    """Return the value that a part of a command denotes, or None if it does not have this form."""
    if form == "PROGRAM":
        return read_program(part)
    if form == "QUEUE":
        return read_word(part)
    if form == "EXPONENT":
        return read_number(part)
    if form == "SET":
        return read_set(part)
    return part if is_name(part) else None


# The forms of the parts of each command.
FORMS = {
    "best": ("PROGRAM", "QUEUE"),
    "effect": ("PROGRAM",),
    "same": ("PROGRAM", "PROGRAM"),
    "normal": ("PROGRAM",),
    "distance": ("PROGRAM", "PROGRAM"),
    "core": ("PROGRAM", "EXPONENT"),
    "repeat": ("PROGRAM", "QUEUE"),
    "count": ("PROGRAM",),
    "image": ("PROGRAM", "SET"),
    "open": ("NAME", "QUEUE"),
    "close": ("NAME",),
    "run": ("NAME", "PROGRAM"),
    "undo": ("NAME",),
    "show": ("NAME",),
    "names": (),
}
ANSWERS = {
    "best": answer_best,
    "effect": answer_effect,
    "same": answer_same,
    "normal": answer_normal,
    "distance": answer_distance,
    "core": answer_core,
    "repeat": answer_repeat,
    "count": answer_count,
    "image": answer_image,
}
# What answers the other commands, with the sessions as the first argument.
SESSION_ANSWERS = {
    "open": start_session,
    "close": end_session,
    "run": run_session,
    "undo": undo_session,
    "show": show_session,
    "names": list_sessions,
}


def read_command(command):
    """Return the first word of a command and the values of its parts."""
    word = command.split(" ")[0] if isinstance(command, str) else ""
    if word not in FORMS:
        raise InvalidCommand(command)
    forms = FORMS[word]
    # The last part is the rest of the command. Only a set may contain blanks.
    parts = command.split(" ", len(forms))
    if parts[0] != word or len(parts) != len(forms) + 1:
        raise InvalidCommand(command)
    values = [read_part(form, part) for form, part in zip(forms, parts[1:])]
    if None in values:
        raise InvalidCommand(command)
    return word, values


class Console:
    """Sessions by name, and commands that use them or stand alone."""

    def __init__(self):
        self.sessions = {}

    def execute(self, command):
        """Run a command and return its answer."""
        word, values = read_command(command)
        if word in ANSWERS:
            answer = ANSWERS[word]
            return answer(*values)
        session_answer = SESSION_ANSWERS[word]
        return session_answer(self.sessions, *values)

    def __len__(self):
        return len(self.sessions)
