"""The hall: many talks by their names, with deeds that can be taken back and done again."""

from weaklook.errors import BadName, Full, HallError, LookError, NoTalk, Nothing, Stopped, Taken
from weaklook.talker import said_letter
from weaklook.talks import awaited, first_talk, need_going_on, paper_of, talk_behind, told_since
from weaklook.tongue import MOST_SMALL, SMALL

MOST_TALKS = 8


def is_talk_name(name):
    """Whether a talk may have this name; all and some are names here."""
    return 1 <= len(name) <= MOST_SMALL and all([sign in SMALL for sign in name])


def need_talk(talks, name):
    """Refuse a name that no talk has."""
    if name not in talks:
        raise NoTalk(f"no talk is called {name}")


def talks_with(talks, name, question, coins):
    """The talks with one that begins."""
    if not is_talk_name(name):
        raise BadName(f"{name} is no name of 1 to {MOST_SMALL} small letters")
    if name in talks:
        raise Taken(f"a talk is called {name} already")
    if len(talks) >= MOST_TALKS:
        raise Full(f"there are {MOST_TALKS} talks already")
    return {**talks, name: first_talk(question, coins)}


def talks_without(talks, name):
    """The talks but the one of this name."""
    return {other: talks[other] for other in talks if other != name}


def awaited_letter(talk, deed):
    """The letter that the deed brings."""
    if deed[0] == "say":
        return deed[2]
    need_going_on(talk.stance)
    return said_letter(talk.stance, deed[0] == "lie")


def talks_behind(talks, deed):
    """The talks behind a deed, and what it tells; the talks handed in stay as they are."""
    word, name = deed[0], deed[1]
    if word == "ask":
        return talks_with(talks, name, deed[2], deed[3]), None
    need_talk(talks, name)
    if word == "leave":
        return talks_without(talks, name), None
    talk = talks[name]
    heard = talk_behind(talk, awaited_letter(talk, deed))
    return {**talks, name: heard}, told_since(heard, talk.known)


class Hall:
    """At most eight talks by their names; what stood earlier and later is kept as it was."""

    def __init__(self):
        self.talks = {}
        self.earlier = []
        self.later = []

    def ask(self, name, question, coins):
        """Begin a talk."""
        return self.do(("ask", name, question, coins))

    def say(self, name, letter):
        """Let the talk's looker hear the letter; tells the tuple of the coins behind it."""
        return self.do(("say", name, letter))

    def speak(self, name):
        """Let the talk's looker hear the true letter; tells as say does."""
        return self.do(("speak", name))

    def lie(self, name):
        """Let the talk's looker hear the told liar's letter; tells as say does."""
        return self.do(("lie", name))

    def leave(self, name):
        """End the talk's stay here."""
        return self.do(("leave", name))

    def do(self, deed):
        """Do a deed, a tuple of its word and what is handed in; tells what the deed tells."""
        talks, told = talks_behind(self.talks, deed)
        self.go_on(talks)
        return told

    def many(self, deeds):
        """Do all deeds as one, or none of them."""
        talks = self.talks
        for at, deed in enumerate(deeds):
            try:
                talks, told = talks_behind(talks, deed)
            except (LookError, HallError) as refusal:
                raise Stopped(at, refusal.word) from None
        if len(deeds) > 0:
            self.go_on(talks)

    def go_on(self, talks):
        """Keep what stood so far, so that it can be taken back; what could be done again is gone."""
        self.earlier.append(self.talks)
        self.later = []
        self.talks = talks

    def undo(self):
        """Take the last deed back."""
        if not self.earlier:
            raise Nothing("nothing to take back")
        self.later.append(self.talks)
        self.talks = self.earlier.pop()

    def redo(self):
        """Do the deed again that was taken back last."""
        if not self.later:
            raise Nothing("nothing to do again")
        self.earlier.append(self.talks)
        self.talks = self.later.pop()

    def past(self):
        """How many deeds can be taken back, and how many done again."""
        return (len(self.earlier), len(self.later))

    def names(self):
        """The rising list of the talks' names."""
        return sorted(self.talks)

    def talk_of(self, name):
        """The talk of this name."""
        need_talk(self.talks, name)
        return self.talks[name]

    def question(self, name):
        """What the talk was asked."""
        return self.talk_of(name).asked

    def stand(self, name):
        """Whether the talk goes "on", or ended with "yes" or "no"."""
        return self.talk_of(name).stance.standing

    def awaits(self, name):
        """The talk's awaited letter as (word, many), or None."""
        return awaited(self.talk_of(name))

    def claims(self, name):
        """The list of the talk's claims, the last one last."""
        return list(self.talk_of(name).stance.waiting)

    def told(self, name):
        """The list of all coins that the talk told."""
        return list(told_since(self.talk_of(name), 0))

    def paper(self, name):
        """The talk's letters and all its coins."""
        return paper_of(self.talk_of(name))

    def records(self):
        """By names what each talk was asked, and its paper."""
        return {name: (self.talks[name].asked, paper_of(self.talks[name])) for name in self.talks}

    def going(self):
        """The names of the talks that go on."""
        return [name for name in self.talks if self.talks[name].stance.standing == "on"]

    def __eq__(self, other):
        return isinstance(other, Hall) and self.records() == other.records()

    def __len__(self):
        return len(self.talks)

    def __repr__(self):
        return f"Hall({len(self.talks)} talks, {len(self.going())} on)"


def hall_of(talks):
    """A hall that stands so, with nothing to take back."""
    hall = Hall()
    hall.talks = talks
    return hall
