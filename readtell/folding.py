"""Folding: what is told of a whole by what is told of the parts within it, however deep."""


def folded(whole, inner_of, told_of):
    """What is told of the whole, the innermost parts first.

    inner_of(part) is the list of what stands right within a part; told_of(part, told) tells of the
    part by the list of what was told of these.
    """
    done = []
    todo = [(whole, None)]
    while todo:
        part, inner = todo.pop()
        if inner is None:
            inner = inner_of(part)
            if inner:
                todo.append((part, inner))
                todo.extend([(one, None) for one in inner[::-1]])
                continue
        start = len(done) - len(inner)
        told = done[start:]
        del done[start:]
        done.append(told_of(part, told))
    return done[0]
