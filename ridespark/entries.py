"""An entry: what one accepted call wrote down."""

READING = 0
RAN = 1
CHECKED = 2
LOCKED = 3
UNLOCKED = 4
FORCED = 5
ORDERED = 6
FINISHED = 7
STAFFED = 8
LEFT = 9
CAME = 10


# The kind decides what the four numbers are:
# READING sensor minute value; RAN ride rounds; CHECKED check who; LOCKED ride who; UNLOCKED ride who;
# FORCED ride who one another; ORDERED ride; FINISHED order who; STAFFED ride staff; LEFT who; CAME who.
class Entry:
    def __init__(self, written, kind, about, told, third, fourth):
        self.written = written
        self.kind = kind
        self.about = about
        self.told = told
        self.third = third
        self.fourth = fourth
