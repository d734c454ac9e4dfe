"""The command interpreter (points 93 to 95 of the document)."""

from lastcopy.arguments import plain_text, plain_writer
from lastcopy.errors import DuplicateName, InvalidCommand, UnknownName
from lastcopy.formats import (
    digits_in,
    parse_content,
    parse_line_counts,
    text_of_actions,
    text_of_line_counts,
    text_of_line_set,
    text_of_runs,
)
from lastcopy.page import Page

EMPTY = "empty"
NONE = "none"
DONE = "ok"

# The forms of the words behind the first one: a NAME, OTHER or W, a COUNT, or the words of a COUNTS
# or CONTENT, which are all that is left.
FORMS = {
    "create": ("name", "words"),
    "delete": ("name",),
    "fork": ("name", "name"),
    "read": ("name", "name"),
    "save": ("name", "name"),
    "append": ("name", "name", "count"),
    "leave": ("name", "name"),
    "undo": ("name",),
    "redo": ("name",),
    "list": (),
    "content": ("name",),
    "copy": ("name", "name"),
    "remaining": ("name", "name"),
    "overwrites": ("name",),
    "counts": ("name",),
    "guaranteed": ("name",),
    "lost": ("name",),
    "bases": ("name",),
    "final": ("name", "words"),
    "schedule": ("name",),
}


def has_form(form, word):
    if form == "name":
        return plain_writer(word) is not None
    if form == "count":
        return digits_in(word) is not None
    return True


def words_of_command(value):
    """The words of a command, all words of a COUNTS or CONTENT as one."""
    text = plain_text(value)
    words = [] if text is None else text.split(" ")
    if not words or "" in words or words[0] not in FORMS:
        raise InvalidCommand("not a command")
    forms = FORMS[words[0]]
    if "words" in forms:
        start = len(forms)
        words = words[:start] + ([" ".join(words[start:])] if len(words) > start else [])
    if len(words) != len(forms) + 1:
        raise InvalidCommand("a word is missing or too many")
    for form, word in zip(forms, words[1:]):
        if not has_form(form, word):
            raise InvalidCommand("a word of another form")
    return words


def text_or(text, word):
    return text if text else word


def content_or_empty(text):
    return [] if text == EMPTY else parse_content(text)


def do_read(page, words):
    page.read_page(words[0])
    return DONE


def do_save(page, words):
    page.save_line(words[0])
    return DONE


def do_append(page, words):
    page.append_lines(words[0], int(words[1]))
    return DONE


def do_leave(page, words):
    page.leave(words[0])
    return DONE


def do_undo(page, words):
    page.undo()
    return DONE


def do_redo(page, words):
    page.redo()
    return DONE


def tell_content(page, words):
    return text_or(text_of_runs(page.content()), EMPTY)


def tell_copy(page, words):
    held = page.held_copy(words[0])
    return NONE if held is None else text_or(text_of_runs(held), EMPTY)


def tell_remaining(page, words):
    return str(page.remaining(words[0]))


def tell_overwrites(page, words):
    return str(page.overwrite_count())


def tell_counts(page, words):
    return text_of_line_counts(page.line_counts())


def tell_guaranteed(page, words):
    return text_or(text_of_line_set(page.guaranteed_lines()), NONE)


def tell_lost(page, words):
    return text_or(text_of_line_set(page.permanently_lost()), NONE)


def tell_bases(page, words):
    parts = []
    for holder, runs in page.possible_bases():
        name = "-" if holder is None else holder
        parts.append(f"{name}: {text_or(text_of_runs(runs), EMPTY)}")
    return " ; ".join(parts)


def tell_final(page, words):
    found = page.obstructions_to(content_or_empty(words[0]))
    if found is None:
        return "yes"
    return " ".join(["no"] + [word for holder, word, index in found])


def tell_schedule(page, words):
    return text_or(text_of_actions(page.schedule()), NONE)


ANSWERS = {
    "read": do_read,
    "save": do_save,
    "append": do_append,
    "leave": do_leave,
    "undo": do_undo,
    "redo": do_redo,
    "content": tell_content,
    "copy": tell_copy,
    "remaining": tell_remaining,
    "overwrites": tell_overwrites,
    "counts": tell_counts,
    "guaranteed": tell_guaranteed,
    "lost": tell_lost,
    "bases": tell_bases,
    "final": tell_final,
    "schedule": tell_schedule,
}


class Interpreter:
    """Pages by name, and commands on them."""

    def __init__(self):
        self.pages = {}

    def execute(self, command):
        words = words_of_command(command)
        first = words[0]
        if first == "list":
            return text_or(" ".join(sorted(self.pages)), NONE)
        if first == "create":
            self.create(words[1], words[2])
            return DONE
        page = self.page_of(words[1])
        if first == "delete":
            self.pages.pop(words[1])
            return DONE
        if first == "fork":
            self.check_new(words[2])
            self.pages[words[2]] = page.fork()
            return DONE
        answer = ANSWERS[first]
        return answer(page, words[2:])

    def create(self, name, text):
        self.check_new(name)
        self.pages[name] = Page(parse_line_counts(text))

    def page_of(self, name):
        if name not in self.pages:
            raise UnknownName("there is no page of this name")
        return self.pages[name]

    def check_new(self, name):
        if name in self.pages:
            raise DuplicateName("there is a page of this name already")
