"""A second world, made in another way: addresses are objects that point at occupations, with fractions for parts.

It is slow, checks its own weights, and remembers when things happened instead of counting changes. Tests compare a World
with it. It is only given what is as it must be, so it checks no arguments.
"""

from fractions import Fraction

HALF = Fraction(1, 2)


class Ref:
    """An address: a weight of an occupation."""

    def __init__(self, occupation, weight):
        self.occupation = occupation
        self.weight = weight

    def copy(self):
        self.weight *= HALF
        return Ref(self.occupation, self.weight)

    def told(self):
        slot = self.occupation
        return (slot.house, slot.number, slot.age, (self.weight.numerator, self.weight.denominator))


class Setting:
    """A variable or a box from the moment when it is set; what it holds may be updated."""

    def __init__(self, ref):
        self.ref = ref


class Being:
    """An object, wherever it is."""

    def __init__(self):
        self.number = 0
        self.boxes = {}
        self.at = None


class Occupation:
    def __init__(self, house, number, age, being):
        self.house = house
        self.number = number
        self.age = age
        self.being = being
        self.purse = Fraction(0)
        self.note = None
        self.departed = None
        self.reply_came = False
        self.waiting = []
        self.touched = []
        self.over = False

    def state(self):
        if self.being.at is self and self.departed is None:
            return "object"
        return "note" if self.reply_came else "departing"

    def refs(self):
        """Return the addresses that are held here, of an object in the order of the names."""
        if self.state() == "object":
            return [self.being.boxes[box].ref for box in sorted(self.being.boxes)]
        return [self.note] if self.note is not None else []


class Model:
    def __init__(self, houses, hands):
        self.houses = [[] for house in range(houses)]
        self.variables = {hand: {} for hand in hands}
        self.under_way = []
        self.asked = []
        self.sent = 0
        self.values = {}
        self.order = []
        self.told = []
        self.done = []
        self.looks = []
        self.clock = 0
        self.passes = {}

    # What both worlds can be asked.

    def letters(self):
        return [self.letter_told(letter) for letter in self.under_way]

    def letter_told(self, letter):
        kind = letter["kind"]
        if kind in ("ask", "seek", "back"):
            slot = letter["refs"][0].occupation
            place = (slot.house, slot.number)
            if kind == "ask":
                return ("ask", letter["ticket"]) + place
            if kind == "seek":
                return ("seek",) + place
            return ("back",) + place + (letter["refs"][0].told()[3],)
        if kind == "answer":
            return ("answer", letter["ticket"])
        if kind == "gift":
            return ("gift", letter["hand"], letter["name"])
        if kind in ("object", "reply"):
            place = (letter["left"].house, letter["left"].number)
            return ("object",) + place + (letter["to"],) if kind == "object" else ("reply",) + place
        if kind == "found":
            return ("found",) + letter["place"] + (letter["box"],)
        if kind == "look":
            return ("look", letter["look"], letter["house"], letter["turn"])
        return ("empty", letter["look"], letter["house"])

    def names(self, hand):
        return sorted(self.variables[hand])

    def address(self, hand, name):
        return self.variables[hand][name].ref.told()

    def occupations(self, house):
        return sorted(self.houses[house], key=lambda slot: slot.number)

    def at(self, house, number):
        return [slot for slot in self.houses[house] if slot.number == number][0]

    def slots(self, house):
        return [(slot.number, slot.state(), slot.age, Ref(slot, slot.purse).told()[3]) for slot in self.occupations(house)]

    def inside(self, house, number):
        slot = self.at(house, number)
        if slot.state() == "object":
            return ("object", slot.being.number, {box: slot.being.boxes[box].ref.told() for box in sorted(slot.being.boxes)})
        if slot.state() == "departing":
            return ("departing", len(slot.waiting))
        return ("note", slot.note.told())

    # Weights, for every moment.

    def all_held(self):
        """Return pairs (holder, address) of all addresses that are held or under way."""
        held = [(("variable", hand, name), setting.ref) for hand, variables in self.variables.items()
                for name, setting in variables.items()]
        letters = list(self.under_way)
        for house in self.houses:
            for slot in house:
                place = (slot.house, slot.number)
                if slot.state() == "note":
                    held.append((("note",) + place, slot.note))
                elif slot.state() == "object":
                    held.extend((("box",) + place + (box,), setting.ref) for box, setting in slot.being.boxes.items())
                letters.extend(slot.waiting)
        for letter in letters:
            held.extend((("letter",), ref) for ref in letter["refs"])
            if letter["kind"] == "object":
                held.extend((("letter",), setting.ref) for setting in letter["left"].being.boxes.values())
        return held

    def holders(self, house, number):
        slot = self.at(house, number)
        return sorted((holder, ref.told()[3]) for holder, ref in self.all_held() if ref.occupation is slot)

    def faults(self):
        """Return the occupations whose purse and parts do not come to the whole, and the addresses of freed ones."""
        sums = {slot: slot.purse for house in self.houses for slot in house}
        faults = []
        for holder, ref in self.all_held():
            if ref.occupation.over or ref.weight <= 0:
                faults.append(ref.told())
            else:
                sums[ref.occupation] += ref.weight
        return faults + [(slot.house, slot.number) for slot, total in sums.items() if total != 1]

    # Settings.

    def send_letter(self, kind, refs, **more):
        self.under_way.append({"kind": kind, "refs": refs, **more})

    def back(self, ref):
        self.send_letter("back", [ref])

    def put(self, held, name, ref):
        if name in held:
            self.back(held[name].ref)
        held[name] = Setting(ref)

    def renew(self, held, name, setting, ref):
        """Return whether anything changed."""
        if held.get(name) is not setting:
            self.back(ref)
            return False
        old = setting.ref
        if ref.occupation.age > old.occupation.age:
            self.back(old)
            setting.ref = ref
            return True
        if ref.occupation.age < old.occupation.age:
            self.back(ref)
            return False
        assert ref.occupation is old.occupation
        old.weight += ref.weight
        return True

    def touch(self, slot):
        slot.touched.append(self.clock)

    # Slots.

    def occupy(self, house, age, being):
        taken = [slot.number for slot in self.houses[house]]
        number = min(set(range(len(taken) + 1)) - set(taken))
        slot = Occupation(house, number, age, being)
        being.at = slot
        self.houses[house].append(slot)
        return slot

    def vacate(self, slot):
        slot.over = True
        self.houses[slot.house].remove(slot)

    def new_being(self, house):
        return Ref(self.occupy(house, 0, Being()), Fraction(1))

    # Deeds of hands and houses.

    def did(self, event, entry=None):
        self.clock += 1
        self.done.append(event)
        if entry is not None:
            self.told.append(entry)

    def make(self, hand, name, house):
        self.did(("make", hand, name, house), ("make", hand, name))
        self.put(self.variables[hand], name, self.new_being(house))

    def ask(self, hand, name, deed, gift=None, target=None):
        self.did(("ask", hand, name, deed, gift, target), ("ask", hand, name, deed, gift, target))
        held = self.variables[hand]
        refs = [held[name].ref.copy()]
        if gift is not None:
            refs.append(held[gift].ref.copy())
        self.asked.append({"hand": hand, "name": name, "setting": held[name], "target": target, "deed": deed,
                           "being": held[name].ref.occupation.being, "age": refs[0].occupation.age, "route": []})
        self.send_letter("ask", refs, ticket=len(self.asked), deed=deed)
        return len(self.asked)

    def share(self, hand, name, new):
        self.did(("share", hand, name, new), ("share", hand, name, new))
        held = self.variables[hand]
        self.put(held, new, held[name].ref.copy())

    def drop(self, hand, name):
        self.did(("drop", hand, name), ("drop", hand, name))
        self.back(self.variables[hand].pop(name).ref)

    def send(self, hand, name, to, new):
        self.did(("send", hand, name, to, new), ("send", hand, name, to, new))
        self.sent += 1
        self.send_letter("gift", [self.variables[hand][name].ref.copy()], hand=to, name=new, gift=self.sent)

    def move(self, house, number, to):
        self.did(("move", house, number, to))
        slot = self.at(house, number)
        slot.departed = to
        slot.being.at = None
        self.touch(slot)
        self.send_letter("object", [], left=slot, to=to)

    def tidy(self, house, number, box):
        self.did(("tidy", house, number, box))
        slot = self.at(house, number)
        self.touch(slot)
        setting = slot.being.boxes[box]
        self.send_letter("seek", [setting.ref.copy()], place=(house, number), box=box, setting=setting)

    def look(self):
        self.did(("look",))
        self.looks.append({"first": {}, "second": {}, "dead": []})
        for house in range(len(self.houses)):
            self.send_letter("look", [], look=len(self.looks), house=house, turn=1)
        return len(self.looks)

    # Deliveries.

    def deliver(self, place=0):
        self.did(("deliver", place))
        letter = self.under_way[place]
        told = self.letter_told(letter)
        del self.under_way[place]
        getattr(self, "deliver_" + letter["kind"])(letter)
        return told

    def deliver_ask(self, letter):
        slot = letter["refs"][0].occupation
        assert not slot.over
        if slot.state() != "object":
            self.wait_or_pass(slot, letter)
            return
        ask = self.asked[letter["ticket"] - 1]
        assert slot.being is ask["being"]
        assert slot.age - ask["age"] == len(ask["route"]) == len(set(ask["route"]))
        self.told.append(("handled", letter["ticket"]))
        value, result = self.do_deed(slot, letter)
        refs = [letter["refs"][0]] + ([result] if result is not None else [])
        self.send_letter("answer", refs, ticket=letter["ticket"], value=value)

    def do_deed(self, slot, letter):
        being = slot.being
        word = letter["deed"][0]
        if word in ("get", "add"):
            being.number += sum(letter["deed"][1:])
            return being.number, None
        if word == "boxes":
            return tuple(sorted(being.boxes)), None
        if word == "make":
            return True, self.new_being(slot.house)
        if word == "clone":
            ref = self.new_being(slot.house)
            other = ref.occupation.being
            other.number = being.number
            for box, setting in being.boxes.items():
                self.touch(slot)
                other.boxes[box] = Setting(setting.ref.copy())
            return True, ref
        box = letter["deed"][1]
        there = box in being.boxes
        if there or word == "take":
            self.touch(slot)
        if word == "take":
            self.put(being.boxes, box, letter["refs"][1])
        elif word == "clear" and there:
            self.back(being.boxes.pop(box).ref)
        elif word == "give" and there:
            return True, being.boxes[box].ref.copy()
        return there, None

    def wait_or_pass(self, slot, letter):
        if slot.state() == "departing":
            slot.waiting.append(letter)
        else:
            self.pass_note(slot, letter)

    def pass_note(self, slot, letter):
        assert not slot.over
        refs = letter["refs"]
        self.touch(slot)
        slot.purse += refs[0].weight
        if "ticket" in letter:
            self.asked[letter["ticket"] - 1]["route"].append(slot)
        if slot.purse == 1:
            self.vacate(slot)
            refs[0] = slot.note
        else:
            refs[0] = slot.note.copy()
        self.under_way.append(letter)

    def deliver_seek(self, letter):
        slot = letter["refs"][0].occupation
        assert not slot.over
        if slot.state() == "object":
            self.under_way.append({**letter, "kind": "found"})
        else:
            self.wait_or_pass(slot, letter)

    def deliver_found(self, letter):
        house, number = letter["place"]
        for slot in self.houses[house]:
            if slot.number == number and slot.state() == "object":
                if self.renew(slot.being.boxes, letter["box"], letter["setting"], letter["refs"][0]):
                    self.touch(slot)
                return
        self.back(letter["refs"][0])

    def deliver_answer(self, letter):
        ask = self.asked[letter["ticket"] - 1]
        held = self.variables[ask["hand"]]
        self.renew(held, ask["name"], ask["setting"], letter["refs"][0])
        for result in letter["refs"][1:]:
            self.put(held, ask["target"], result)
        self.values[letter["ticket"]] = letter["value"]
        self.order.append((letter["ticket"], letter["value"]))
        self.told.append(("answered", letter["ticket"]))

    def deliver_gift(self, letter):
        self.put(self.variables[letter["hand"]], letter["name"], letter["refs"][0])
        self.told.append(("given", letter["gift"]))

    def deliver_back(self, letter):
        slot = letter["refs"][0].occupation
        assert not slot.over
        self.touch(slot)
        slot.purse += letter["refs"][0].weight
        if slot.purse == 1 and slot.state() != "departing":
            refs = slot.refs()
            self.vacate(slot)
            for ref in refs:
                self.back(ref)

    def deliver_object(self, letter):
        left = letter["left"]
        slot = self.occupy(letter["to"], left.age + 1, left.being)
        self.send_letter("reply", [Ref(slot, Fraction(1))], left=left)

    def deliver_reply(self, letter):
        slot = letter["left"]
        if slot.purse == 1:
            assert slot.waiting == []
            self.vacate(slot)
            self.back(letter["refs"][0])
            return
        self.touch(slot)
        slot.reply_came = True
        slot.note = letter["refs"][0]
        while slot.waiting:
            self.pass_note(slot, slot.waiting.pop(0))

    def deliver_look(self, letter):
        look = self.looks[letter["look"] - 1]
        house = letter["house"]
        reports = look["first"] if letter["turn"] == 1 else look["second"]
        reports[house] = {slot: (self.clock, slot.purse, [(ref.occupation, ref.weight) for ref in slot.refs()], slot.state())
                          for slot in self.houses[house]}
        if len(reports) < len(self.houses):
            return
        if letter["turn"] == 1:
            for to in range(len(self.houses)):
                self.send_letter("look", [], look=letter["look"], house=to, turn=2)
            return
        look["dead"] = self.dead_of(look)
        for to in range(len(self.houses)):
            if any(slot.house == to and look["second"][to][slot][2] and look["second"][to][slot][3] == "object"
                   for slot in look["dead"]):
                self.send_letter("empty", [], look=letter["look"], house=to)

    def dead_of(self, look):
        """Return the dead set: what is left when all is taken out of which something outside holds a part."""
        reports = {}
        for house, slots in look["second"].items():
            for slot, report in slots.items():
                before = look["first"][house].get(slot)
                if before is not None and not any(before[0] < moment <= report[0] for moment in slot.touched):
                    assert before[1:] == report[1:]
                    reports[slot] = report
        sums = {slot: report[1] for slot, report in reports.items()}
        for report in reports.values():
            for slot, weight in report[2]:
                if slot in sums:
                    sums[slot] += weight
        alive = [slot for slot, total in sums.items() if total != 1]
        for slot in alive:
            alive.extend(other for other, weight in reports[slot][2] if other in reports and other not in alive)
        return [slot for slot in reports if slot not in alive]

    def deliver_empty(self, letter):
        dead = self.looks[letter["look"] - 1]["dead"]
        for slot in self.occupations(letter["house"]):
            if slot in dead and slot.state() == "object":
                for box in sorted(slot.being.boxes):
                    self.touch(slot)
                    self.back(slot.being.boxes.pop(box).ref)

    # Trails and reach.

    def trail(self, slot):
        """Return the occupations of the trail from one."""
        trail = [slot]
        while trail[-1].state() != "object":
            being = trail[-1].being
            later = [other for house in self.houses for other in house
                     if other.being is being and other.age == trail[-1].age + 1]
            if not later:
                break
            trail.append(later[0])
        return trail

    def ahead(self, hand, name):
        """Return how many notes are ahead of a variable."""
        first = self.variables[hand][name].ref.occupation
        trail = self.trail(first)
        return len(trail) - 1 + (trail[-1].state() == "departing")

    def reached(self, also_by_letters=False):
        """Return the places of the slots that variables reach, or variables and letters."""
        roots = ("variable", "letter") if also_by_letters else ("variable",)
        found = [ref.occupation for holder, ref in self.all_held() if holder[0] in roots]
        for slot in found:
            found.extend({ref.occupation for ref in slot.refs()} - set(found))
        return sorted({(slot.house, slot.number) for slot in found})

    # Papers.

    def accepts(self, house, number, paper):
        """Return whether something is a paper of an occupied slot, if its kinds of values are those of papers."""
        if paper[0] == "reached":
            return self.accepts_path(house, number, *paper[1:])
        return self.accepts_dead(house, number, *paper[1:])

    def accepts_path(self, house, number, root, path):
        if path[-1:] != [(house, number)] or any(path.count(place) > 1 for place in path):
            return False
        heads = [ref.occupation for holder, ref in self.all_held() if holder == root and root[0] in ("variable", "letter")]
        for place in path:
            heads = [slot for slot in heads if (slot.house, slot.number) == place]
            if not heads:
                return False
            heads = heads[0].refs()
            heads = [ref.occupation for ref in heads]
        return True

    def accepts_dead(self, house, number, slots):
        taken = [(slot.house, slot.number) for rooms in self.houses for slot in rooms]
        if (house, number) not in slots or slots != sorted(set(slots)) or not set(slots) <= set(taken):
            return False
        holders = [holder for place in slots for holder, part in self.holders(*place)]
        return all(holder[0] in ("box", "note") and holder[1:3] in slots for holder in holders)
