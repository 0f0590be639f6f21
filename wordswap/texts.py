"""Texts: plans and rows of deeds, written and read."""

from wordswap.errors import NoText
from wordswap.ledgers import LAY, SAY
from wordswap.plans import Plan, are_leaders
from wordswap.webs import Web, is_number_of_hands, is_passing

HANDS = "hands"
LEADERS = "leaders"
PASS = "pass"
FIGURES = "0123456789"
MOST_FIGURES = 9


def in_words(word, numbers):
    return " ".join([word] + [str(number) for number in numbers])


def written_plan(plan):
    rows = [in_words(HANDS, [plan.web.number]), in_words(LEADERS, plan.kept_leaders)]
    for passing in plan.web.passings:
        rows.append(in_words(PASS, passing + (plan.limit(passing),)))
    return "\n".join(rows)


def written_deed(turn, deed):
    chain = deed[2] if deed[0] == SAY else ()
    return str(turn) + " " + in_words(deed[0], deed[1] + chain)


def written_deeds(rows):
    return "\n".join([written_deed(turn, deed) for turn, deed in rows])


def is_number(word):
    # Python takes other signs for figures too, of other scripts.
    if not 1 <= len(word) <= MOST_FIGURES or not all([sign in FIGURES for sign in word]):
        return False
    return word == "0" or word[0] != "0"


# None where one of the words is no number.
def read_numbers(words):
    if not all([is_number(word) for word in words]):
        return None
    return [int(word) for word in words]


# The numbers behind a row's first word; None where the row is another one.
def numbers_behind(first, row):
    words = row.split(" ")
    return read_numbers(words[1:]) if words[0] == first else None


def read_plan(text):
    rows = text.split("\n")
    number = read_hands(rows[0])
    if len(rows) == 1:
        raise NoText(2)
    leaders = read_leaders(number, rows[1])
    limits = read_limits(number, rows[2:])
    return Plan(Web(number, list(limits)), leaders, limits)


def read_hands(row):
    numbers = numbers_behind(HANDS, row)
    if numbers is None or len(numbers) != 1 or not is_number_of_hands(numbers[0]):
        raise NoText(1)
    return numbers[0]


def read_leaders(number, row):
    leaders = numbers_behind(LEADERS, row)
    if leaders is None or not are_leaders(Web(number, []), leaders):
        raise NoText(2)
    return leaders


def read_limits(number, rows):
    limits = {}
    # Less than any passing.
    last = ()
    for at, row in enumerate(rows, start=3):
        numbers = numbers_behind(PASS, row)
        if numbers is None or len(numbers) != 3:
            raise NoText(at)
        passing = (numbers[0], numbers[1])
        if not is_passing(number, passing) or passing <= last:
            raise NoText(at)
        limits[passing] = numbers[2]
        last = passing
    return limits


def read_deeds(text):
    if text == "":
        return []
    rows = []
    least_turn = 1
    for at, row in enumerate(text.split("\n"), start=1):
        read = read_deed(row)
        if read is None or read[0] < least_turn:
            raise NoText(at)
        least_turn = read[0]
        rows.append(read)
    return rows


# A tuple (turn, deed); None where the row is of neither form.
def read_deed(row):
    words = row.split(" ")
    numbers = read_numbers(words[:1] + words[2:])
    if numbers is None or len(numbers) < 3:
        return None
    passing = (numbers[1], numbers[2])
    chain = tuple(numbers[3:])
    if words[1] == LAY and chain == ():
        return (numbers[0], (LAY, passing))
    if words[1] == SAY and chain != ():
        return (numbers[0], (SAY, passing, chain))
    return None
