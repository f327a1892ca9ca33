"""A desk: lines of commands and queries for a store, and one answer for each."""

from nearslot.errors import BadLine, Full, Needed, NoObject
from nearslot.leaving import can_leave
from nearslot.store import Store
from nearslot.texts import EMPTY, cell_in, number_in, table_text
from nearslot.times import count_before, time_counts

MOST_CELLS = 12
MOST_DIGITS = 3

# How many integers stand behind each word.
INTEGERS = {
    "put": 1,
    "take": 1,
    "forget": 1,
    "undo": 0,
    "show": 0,
    "order": 0,
    "count": 0,
    "histories": 0,
    "before": 2,
    "times": 1,
    "leave": 0,
}


def size_in(line):
    """Return the size that the first line gives, or None if it is not so written."""
    words = line.split(" ")
    if len(words) != 2 or words[0] != "store":
        return None
    size = number_in(words[1], MOST_DIGITS)
    return size if size is not None and 1 <= size <= MOST_CELLS else None


def request_in(line, size):
    """Return the pair of the word and the list of the integers of a line, or None if it is not so written."""
    words = line.split(" ")
    numbers = [number_in(word, MOST_DIGITS) for word in words[1:]]
    if INTEGERS.get(words[0]) != len(numbers) or None in numbers:
        return None
    if words[0] == "put" and cell_in(words[1], size) is None:
        return None
    return (words[0], numbers)


def requests_in(lines, size):
    """Return the list of the requests of all lines but the first one."""
    requests = []
    for place, line in enumerate(lines[1:], start=1):
        request = request_in(line, size)
        if request is None:
            raise BadLine(place)
        requests.append(request)
    return requests


def integers_text(numbers):
    """Return the text of some integers."""
    return " ".join([str(number) for number in numbers]) if numbers else EMPTY


def undo_text(store):
    """Undo the last operation and return the answer to it."""
    return "yes" if store.undo() else "no"


def integers_of(store, word, numbers):
    """Do what the word asks of the store and return the integers that it returns."""
    if word == "put":
        return [store.put(numbers[0])]
    if word == "take":
        return [store.take_out(numbers[0])]
    if word == "forget":
        return [store.forget(numbers[0])]
    if word == "order":
        return store.order()
    if word == "count":
        return [store.count()]
    if word == "histories":
        return [store.histories()]
    if word == "before":
        return [count_before(store.table(), numbers[0], numbers[1])]
    if word == "times":
        return time_counts(store.table(), numbers[0])
    return can_leave(store.table())


def answer(store, word, numbers):
    """Return the answer of the store to one request."""
    if word == "undo":
        return undo_text(store)
    if word == "show":
        return table_text(store.table())
    # A store's table is always possible, so nothing else is raised.
    try:
        return integers_text(integers_of(store, word, numbers))
    except Full:
        return "error Full"
    except NoObject:
        return "error NoObject"
    except Needed:
        return "error Needed"


def answers(text):
    """Return the list of the answers to all lines but the first one."""
    lines = text.split("\n")
    size = size_in(lines[0])
    if size is None:
        raise BadLine(0)
    # All lines are read before anything is done.
    requests = requests_in(lines, size)
    store = Store(size)
    found = []
    for word, numbers in requests:
        found.append(answer(store, word, numbers))
    return found
