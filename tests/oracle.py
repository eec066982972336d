"""A second interpreter of programs, over boxes and Python's own throws."""


class Thrown(Exception):
    def __init__(self, kind, place):
        Exception.__init__(self, kind, place)
        self.kind = kind
        self.place = place


class Returned(Exception):
    def __init__(self, result):
        Exception.__init__(self, result)
        self.result = result


class TooFar(Exception):
    pass


def numbered(block, start=0):
    """The statements with their places: (place, statement, blocks with places)."""
    found = []
    at = start
    for statement in block:
        place = at
        at += 1
        inner = []
        match statement:
            case ('if', first, second):
                blocks = [first, second]
            case ('while', first) | ('undo', _, first) | ('with', _, _, _, first):
                blocks = [first]
            case ('try', first, handlers, last):
                blocks = [first] + [handled for _, handled in handlers] + [last]
            case _:
                blocks = []
        for one in blocks:
            told, at = numbered(one, at)
            inner.append(told)
        found.append((place, statement, inner))
    return found, at


class Oracle:
    def __init__(self, tree, injections=()):
        self.shared = tree[0]
        self.functions = {name: (params, numbered(block)[0]) for name, params, block in tree[3]}
        self.injections = {one[:3]: one[3] for one in injections}

    def run(self, name, case, entry, choices):
        """(kind, place, cells, result, used, passings, replay) as the machine tells it; TooFar beyond a limit."""
        self.choices = list(choices)
        self.used = 0
        self.ways = []
        self.steps = 0
        self.calls = self.deepest = 0
        self.passings = []
        self.replay = []
        numbers = list(entry)
        boxes = {one: self.box(one, numbers.pop(0)) for one in self.shared}
        self.globals = dict(boxes)
        params = self.functions[name][0]
        cells = [boxes[one] for one in self.shared]
        named = [one for one, by_place in params if by_place]
        for param, cell in zip(named, case):
            if param == cell:
                boxes[param] = self.box(param, numbers.pop(0))
                cells.append(boxes[param])
            else:
                boxes[param] = boxes[cell]
        for param, by_place in params:
            if not by_place:
                boxes[param] = [numbers.pop(0)]
        assert not numbers
        kind = place = None
        result = 0
        try:
            result = self.function(name, boxes)
        except Thrown as thrown:
            kind, place = thrown.kind, thrown.place
        told = tuple(box[0] for box in cells)
        return kind, place, told, result, self.used, self.passings, self.replay

    def box(self, name, number):
        """The box of a cell."""
        return [number]

    def take(self, ways=None):
        self.ways.append(ways)
        choice = self.choices[self.used] if self.used < len(self.choices) else 0
        self.used += 1
        self.replay.append(choice)
        return choice

    def function(self, name, boxes):
        self.calls += 1
        if self.calls > 20:
            raise TooFar('calls')
        self.deepest = max(self.deepest, self.calls)
        try:
            self.block(name, boxes, self.functions[name][1])
        except Returned as returned:
            return returned.result
        finally:
            self.calls -= 1
        return 0

    def block(self, name, boxes, block):
        for place, statement, inner in block:
            self.steps += 1
            if self.steps > 4000:
                raise TooFar('steps')
            self.statement(name, boxes, place, statement, inner)

    def value(self, boxes, expression):
        total = expression[0]
        for name, factor in expression[1]:
            total += factor * boxes.setdefault(name, [0])[0]
        return total

    def call(self, boxes, place, name, args):
        given = dict(self.globals)
        for (param, by_place), (_, held) in zip(self.functions[name][0], args):
            given[param] = boxes.setdefault(held, [0]) if by_place else [self.value(boxes, held)]
        try:
            return self.function(name, given)
        except Thrown as thrown:
            raise Thrown(thrown.kind, place) from None

    def statement(self, name, boxes, place, statement, inner):
        match statement:
            case ('set', variable, expression):
                boxes.setdefault(variable, [0])[0] = self.value(boxes, expression)
            case ('input', variable):
                boxes.setdefault(variable, [0])[0] = self.take()
            case ('call', target, called, args):
                result = self.call(boxes, place, called, args)
                if target is not None:
                    boxes.setdefault(target, [0])[0] = result
            case ('if', *_):
                self.block(name, boxes, inner[0] if self.take(2) % 2 else inner[1])
            case ('while', _):
                while self.take(2) % 2:
                    self.block(name, boxes, inner[0])
            case ('risk', kinds):
                self.risk(name, place, kinds)
            case ('raise', kind):
                raise Thrown(kind, place)
            case ('return', expression):
                raise Returned(self.value(boxes, expression))
            case ('try', _, handlers, _):
                try:
                    try:
                        self.block(name, boxes, inner[0])
                    except Thrown as thrown:
                        for (kinds, _), block in zip(handlers, inner[1:]):
                            if thrown.kind in kinds:
                                self.block(name, boxes, block)
                                break
                        else:
                            raise
                except TooFar:
                    raise
                except BaseException:
                    self.block(name, boxes, inner[-1])
                    raise
                self.block(name, boxes, inner[-1])
            case ('undo', variables, _):
                before = [(one, boxes.setdefault(one, [0])[0]) for one in variables]
                try:
                    self.block(name, boxes, inner[0])
                except Thrown:
                    for variable, number in before:
                        boxes[variable][0] = number
                    raise
            case ('with', enter, leave, swallowed, _):
                self.call(boxes, place, *enter)
                try:
                    self.block(name, boxes, inner[0])
                except TooFar:
                    raise
                except Thrown as thrown:
                    self.call(boxes, place, *leave)
                    if thrown.kind not in swallowed:
                        raise
                except Returned:
                    self.call(boxes, place, *leave)
                    raise
                else:
                    self.call(boxes, place, *leave)

    def risk(self, name, place, kinds):
        self.passings.append((name, place))
        nth = self.passings.count((name, place))
        if (name, place, nth) in self.injections:
            kind = self.injections[name, place, nth]
            self.replay.append(kinds.index(kind) + 1)
            raise Thrown(kind, place)
        number = self.take(len(kinds) + 1) % (len(kinds) + 1)
        if number:
            raise Thrown(kinds[number - 1], place)
