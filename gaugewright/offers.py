"""Offers of narrower spans (low, high, price) for each part, and choices among them."""

from gaugewright.counter import counter
from gaugewright.errors import NoOffer
from gaugewright.kinds import are_ends, is_number, is_whole
from gaugewright.spans import inside

MOST_OFFERS = 4


def offers_of(drawing, things):
    return made_by_parts(drawing, things, are_offers)


def made_by_parts(drawing, things, are_right):
    for number, thing in enumerate(things):
        if number >= len(drawing) or not are_right(drawing[number], thing):
            raise NoOffer(number)
    if len(things) < len(drawing):
        raise NoOffer(len(things))
    return tuple(things)


def are_offers(part, thing):
    if not isinstance(thing, tuple) or not 1 <= len(thing) <= MOST_OFFERS:
        return False
    if not all([is_offer(offer) for offer in thing]) or thing[0] != (part[1], part[2], 0):
        return False
    return all([narrower_and_dearer(offer, ahead) for offer, ahead in zip(thing[1:], thing)])


def is_offer(thing):
    if not isinstance(thing, tuple) or len(thing) != 3:
        return False
    return are_ends(thing[0], thing[1]) and is_number(thing[2]) and thing[2] >= 0


def narrower_and_dearer(offer, ahead):
    return inside(offer[:2], ahead[:2]) and offer[:2] != ahead[:2] and offer[2] > ahead[2]


def is_choice(offers, thing):
    return is_beginning(sizes_of(offers), thing) and len(thing) == len(offers)


def sizes_of(offers):
    return [len(of_part) for of_part in offers]


def is_beginning(sizes, thing):
    if not isinstance(thing, tuple) or len(thing) > len(sizes):
        return False
    return all([is_whole(number) and 0 <= number < size for number, size in zip(thing, sizes)])


def price_of(offers, choice):
    return sum([of_part[number][2] for of_part, number in zip(offers, choice)])


def narrowed_by(drawing, offers, choice):
    chosen = [of_part[number] for of_part, number in zip(offers, choice)]
    return tuple([(part[0], offer[0], offer[1]) for part, offer in zip(drawing, chosen)])


def safe(job, offers, choice):
    return counter((narrowed_by(job[0], offers, choice), job[1])) is None
