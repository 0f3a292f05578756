"""The fewest papers with which the records of a journal can do."""

from backseen.commands import moments_of, need_journal
from backseen.sides import verdict_evidence, verdict_with_reason
from backseen.words import word_place


def verdict_at(letters, moment, word):
    """Return the verdict about the word for what a desk holds."""
    return verdict_with_reason(letters, moment.words_in, moment.words_out, moment.look, word)[0]


def words_in_some(samples):
    """Return the ascending tuple of the words that are in some of the samples."""
    found = {word: True for sample in samples for word in sample}
    return tuple(sorted(found, key=word_place))


def words_in_every(samples):
    """Return the ascending tuple of the words that are in every one of the samples."""
    return tuple([word for word in samples[0] if all([word in sample for sample in samples])])


def sides_of_all(moments, verdict):
    """Return two sides and a look: a paper with this verdict that is right for them is right at all the moments."""
    inside = [moment.words_in for moment in moments]
    outside = [moment.words_out for moment in moments]
    if verdict == "open":
        return words_in_some(inside), words_in_some(outside), moments[0].look
    return words_in_every(inside), words_in_every(outside), moments[-1].look


def lasts(letters, moments, word):
    """Tell whether one paper about the word can be right at all the moments."""
    verdict = verdict_at(letters, moments[0], word)
    if verdict_at(letters, moments[-1], word) != verdict:
        return False
    words_in, words_out, look = sides_of_all(moments, verdict)
    return verdict_with_reason(letters, words_in, words_out, look, word)[0] == verdict


def stretches(letters, moments, word):
    """Return the list of the stretches of moments for which one paper each will do, each as long as it can be.

    The moments begin where the word is asked.
    """
    found = [[]]
    for moment in moments:
        if lasts(letters, found[-1] + [moment], word):
            found[-1].append(moment)
        else:
            found.append([moment])
    return found


def stretches_of_words(letters, moments):
    """Return the list that has for each asked word the list of its stretches of moments."""
    asked = moments[-1].asked if len(moments) > 0 else ()
    return [
        stretches(letters, [moment for moment in moments if word in moment.asked], word) for word in asked
    ]


def fewest_papers(letters, k, journal):
    """Return the tuple of the least numbers of papers for the asked words."""
    need_journal(letters, k, journal)
    return tuple([len(found) for found in stretches_of_words(letters, moments_of(k, journal))])


def paper_for_all(letters, moments, word):
    """Return a paper about the word that is right at all the moments of a stretch."""
    words_in, words_out, look = sides_of_all(moments, verdict_at(letters, moments[0], word))
    return verdict_evidence(letters, words_in, words_out, look, word)


def fewest_records(letters, k, journal):
    """Return right records for the commands of the journal that bring the fewest papers for each asked word."""
    need_journal(letters, k, journal)
    moments = moments_of(k, journal)
    found = stretches_of_words(letters, moments)
    records = []
    for command, moment in zip(journal, moments):
        fresh = [
            (number, paper_for_all(letters, stretch, moment.asked[number]))
            for number, word_stretches in enumerate(found)
            for stretch in word_stretches
            if stretch[0].many == moment.many
        ]
        records.append((command, tuple(fresh)))
    return tuple(records)
