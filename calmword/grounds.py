"""What is told of machines: an expression and a saying, or a counting."""

from calmword.countings import counting
from calmword.deeds import calm
from calmword.errors import NotCalm
from calmword.groundwork import Groundwork
from calmword.least import least
from calmword.saymade import saying_machine
from calmword.sayings_of import saying_of


def expression_of(machine):
    lean = least(machine)
    if not calm(lean):
        raise NotCalm()
    ground = Groundwork(lean)
    return ground.sheet.expression(ground.of_rooms(lean[2]))


def expression_of_saying(letters, saying):
    return expression_of(saying_machine(letters, saying))


def told(machine):
    found = counting(machine)
    if found is not None:
        return ("counting", found)
    expression = expression_of(machine)
    return ("calm", expression, saying_of(machine[0], expression))
