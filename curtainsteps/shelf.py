"""A shelf of terms under labels."""

from curtainsteps.days import need_days
from curtainsteps.errors import BadTerm, Missing, TooMany
from curtainsteps.forms import is_word
from curtainsteps.needs import need_label
from curtainsteps.terms import claim_of, need_term

MOST_TERMS = 20


def claim_or_none(days, term):
    """The CLAIM of a TERM, None if it has none."""
    try:
        return claim_of(days, term)
    except BadTerm:
        return None


def pays_no_less(one, other):
    """Whether a CLAIM pays no less than another one on each PATH."""
    return all([high >= low for high, low in zip(one, other)])


class Shelf:
    """At most 20 TERMS under LABELS."""

    def __init__(self):
        self.terms = {}

    def put(self, label, term):
        """A TERM under a LABEL, in the place of an elder one."""
        need_label(label)
        need_term(term)
        if label not in self.terms and len(self.terms) == MOST_TERMS:
            raise TooMany(MOST_TERMS)
        self.terms[label] = term

    def take(self, label):
        """Takes a TERM away, and returns it."""
        term = self.seek(label)
        del self.terms[label]
        return term

    def seek(self, label):
        """The TERM under a LABEL."""
        if label not in self:
            raise Missing(label)
        return self.terms[label]

    def labels(self):
        """The ascending tuple of its LABELS."""
        return tuple(sorted(self.terms))

    def claims(self, days):
        """The CLAIMS by ascending LABELS, of the TERMS that have one."""
        found = {label: claim_or_none(days, self.terms[label]) for label in sorted(self.terms)}
        return {label: found[label] for label in found if found[label] is not None}

    def alike(self, days):
        """The ascending tuple of all pairs of LABELS, the first one less, whose TERMS have the same CLAIM."""
        claims = self.claims(need_days(days))
        return tuple([
            (one, other) for one in claims for other in claims if one < other and claims[one] == claims[other]
        ])

    def paying(self, days, label):
        """The ascending tuple of the other LABELS whose TERMS pay no less on each PATH."""
        need_days(days)
        self.seek(label)
        claims = self.claims(days)
        if label not in claims:
            return ()
        return tuple([other for other in claims if other != label and pays_no_less(claims[other], claims[label])])

    def __len__(self):
        return len(self.terms)

    def __contains__(self, label):
        return is_word(label) and label in self.terms

    def __eq__(self, other):
        return isinstance(other, Shelf) and self.terms == other.terms
