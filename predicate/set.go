package predicate

import "slices"

// interval has the numbers from low to high.
type interval struct{ low, high int }

// set is a set of numbers: intervals in increasing order, which have no numbers in common.
type set []interval

// between returns the set of the numbers from one to another one; it is empty if this is less.
func between(low, high int) set {
	if low > high {
		return nil
	}
	return set{{low, high}}
}

func only(n int) set { return between(n, n) }

// The ways in which sets are combined.
func inBoth(inA, inB bool) bool      { return inA && inB }
func inAny(inA, inB bool) bool       { return inA || inB }
func inFirstOnly(inA, inB bool) bool { return inA && !inB }

// combine returns the set of the numbers that are to be kept because they are in two sets, or in one of them.
func combine(a, b set, keep func(inA, inB bool) bool) set {
	var edges []int // between two neighbours, it is the same for all numbers
	for _, x := range slices.Concat(a, b) {
		edges = append(edges, x.low, x.high+1)
	}
	slices.Sort(edges)
	edges = slices.Compact(edges)
	var out set
	for i := range max(0, len(edges)-1) {
		low, behind := edges[i], edges[i+1]
		a, b = a.from(low), b.from(low)
		if keep(a.beginsBy(low), b.beginsBy(low)) {
			out = out.with(interval{low, behind - 1})
		}
	}
	return out
}

// combineAll combines any number of sets. It takes halves, so that sets that grow with every step are not combined one by one.
func combineAll(l []set, keep func(inA, inB bool) bool) set {
	switch len(l) {
	case 0:
		return nil
	case 1:
		return l[0]
	}
	half := len(l) / 2
	return combine(combineAll(l[:half], keep), combineAll(l[half:], keep), keep)
}

// from returns a set without the intervals that end before a number.
func (s set) from(n int) set {
	for len(s) > 0 && s[0].high < n {
		s = s[1:]
	}
	return s
}

// beginsBy reports whether the first interval of a set begins at a number or before it.
func (s set) beginsBy(n int) bool { return len(s) > 0 && s[0].low <= n }

// with returns a set with a further interval at its end.
func (s set) with(x interval) set {
	if last := len(s) - 1; last >= 0 && s[last].high+1 == x.low {
		s[last].high = x.high
		return s
	}
	return append(s, x)
}
