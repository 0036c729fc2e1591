"""Classes into which limits part a box, and which classes of two boxes fit as wholes."""

from gaugewright.boxes import all_fit


def class_of(limits, number):
    return len([limit for limit in limits if limit < number])


def classes(limits, box):
    return [pieces_of_class(limits, box, its_class) for its_class in range(len(limits) + 1)]


def pieces_of_class(limits, box, its_class):
    return tuple([piece for piece, number in enumerate(box) if class_of(limits, number) == its_class])


def sure(gap, limits, one, other_limits, other):
    found = []
    for its_class, numbers in enumerate(numbers_by_class(limits, one)):
        for other_class, other_numbers in enumerate(numbers_by_class(other_limits, other)):
            if numbers and other_numbers and all_fit(gap, numbers, other_numbers):
                found.append((its_class, other_class))
    return found


def numbers_by_class(limits, box):
    return [[box[piece] for piece in pieces] for pieces in classes(limits, box)]
