"""What is no function and no case, for all that has the names of both."""

from allornothing.errors import InvalidCase, UnknownFunction


class Anything:
    """Equal to all values."""

    def __eq__(self, other):
        return True

    def __hash__(self):
        return hash('a')


ANY = Anything()
NO_NAMES = (None, 'zz', 'a', '', ['f'], ('f',), True, False, {}, 1, 0.5, ANY)
NO_CASES = (('x',), ('p', 'p', 'p'), ('k',), 'p', 'f', 0, True, False, {}, ('',), (None,), (None, None), (['p'],), [], ('zz', 'zz'), ANY, (ANY,), (ANY, ANY))


def check_function_and_case(test, call, name='f', case=('p',), none=True):
    """Check that a call with a name and a case raises these errors first; none is whether None is a case."""
    for wrong in NO_NAMES:
        for other in (None, (), case, 5):
            with test.assertRaises(UnknownFunction) as caught:
                call(wrong, other)
            test.assertIs(caught.exception.name, wrong)
    for wrong in NO_CASES + (list(case), case[1:]) + (() if none else (None,)):
        with test.assertRaises(InvalidCase) as caught:
            call(name, wrong)
        test.assertIs(caught.exception.value, wrong)
