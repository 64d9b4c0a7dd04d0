"""The best story, and prices which certify that no story weighs less."""

from stockcounts.least import LeastStories
from stockcounts.records import id_of, in_sequence
from stockcounts.stories import story_weight


def best_story(records, *, shortage, surplus):
    """Return the least story with the least list of amounts; raise Contradiction(prices) if there is none."""
    stories = LeastStories(records, shortage, surplus)
    for record in in_sequence(records):
        stories.lowest_amount(id_of(record))
        stories.keep(id_of(record))
    return stories.story()


def better_story(records, story, *, shortage, surplus):
    """Return a story that is better than a story of the records, or None if this one is the best."""
    best = best_story(records, shortage=shortage, surplus=surplus)
    return None if best == story else best


def best_prices(records, *, shortage, surplus):
    """Return right prices whose bound is the least weight; raise Contradiction(prices) if there is no story."""
    return LeastStories(records, shortage, surplus).certifying_prices()


def least_weight(records, *, shortage, surplus):
    """Return the least weight; raise Contradiction(prices) if there is no story."""
    amounts = LeastStories(records, shortage, surplus).story()
    return story_weight(records, amounts, shortage=shortage, surplus=surplus)
