"""Classes of programs that stand for one another."""

from standsfor.aparts import apart
from standsfor.checks import check_most
from standsfor.errors import BadName, NotAlike
from standsfor.growth import grown
from standsfor.names import is_name
from standsfor.plain import is_plain
from standsfor.programs import Program, with_class
from standsfor.sides import Shelf, Sides
from standsfor.walks import parts_of, with_other_classes


def exchanged(program, name, cls, *, most=2000):
    """The program with this class in the place of the one there, to which it has to be alike."""
    classes = _classes_with(program, name)
    moves = apart(classes[name], cls, most=most)
    if moves is not None:
        raise NotAlike(moves)
    return with_class(program, name, cls)


def alike_names(program, *, most=2000):
    """The ascending list of the tuples of names of the plain classes that are alike."""
    check_most(most)
    classes = program.classes
    names = [name for name in sorted(classes) if is_plain(classes[name])]
    shelf = Shelf()
    # All are asked for, as any of them may be too many.
    told = {}
    for index, one in enumerate(names):
        for other in names[index + 1:]:
            if classes[one][1] == classes[other][1]:
                growth = grown(Sides(classes[one], classes[other], shelf), most)
                told[(one, other)] = not growth.has_goal
    found = []
    for index, name in enumerate(names):
        if not any([told.get((earlier, name), False) for earlier in names[:index]]):
            found.append((name, *[later for later in names[index + 1:] if told.get((name, later), False)]))
    return found


def fewer_classes(program, *, most=2000):
    """The program with one class in the place of all that are alike."""
    firsts = {name: names[0] for names in alike_names(program, most=most) for name in names}
    classes = {
        name: _with_other_classes(cls, firsts)
        for name, cls in program.classes.items()
        if firsts.get(name, name) == name
    }
    return Program(classes, with_other_classes(program.body, firsts))


def needless_methods(program, name):
    """The ascending list of the methods of a class that nothing in the program names."""
    classes = _classes_with(program, name)
    blocks = [block for cls in classes.values() for _, block in cls[3].values()]
    named = {}
    for block in blocks + [program.body]:
        for kind, part in parts_of(block):
            if kind == "right" and part[0] == "ask":
                named[part[2]] = True
            elif kind == "right" and part[0] == "parent":
                named[part[1]] = True
    return [method for method in sorted(classes[name][3]) if method not in named]


def _classes_with(program, name):
    """The classes of the program, if one of them has this name."""
    classes = program.classes
    if not is_name(name) or name not in classes:
        raise BadName(name)
    return classes


def _with_other_classes(cls, names):
    parent, mark, fields, methods = cls
    changed = {method: (params, with_other_classes(block, names)) for method, (params, block) in methods.items()}
    return (names.get(parent, parent), mark, fields, changed)
