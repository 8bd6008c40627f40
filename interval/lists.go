package interval

import (
	"cmp"
	"slices"

	"sectime/api"
)

// Common returns the instants that are in all spans of a list, and whether there are any.
func Common(l []api.Span) (api.Span, bool) {
	if len(l) == 0 {
		return api.Span{}, false
	}
	common, ok := l[0], true
	// The first span meets itself, so that it is looked at too if it is the only one.
	for _, s := range l {
		common, ok = Meet(common, s)
		if !ok {
			return api.Span{}, false
		}
	}
	return common, true
}

// Union returns the spans of all instants that are in at least one span of a list, ascending, with a gap between any two.
func Union(l []api.Span) ([]api.Span, api.Errno) {
	if !valid(l) {
		return nil, api.ErrForm
	}
	if len(l) > api.MaxSpans {
		return nil, api.ErrLimit
	}
	var union []api.Span
	for _, s := range ascending(l) {
		last := len(union) - 1
		if last < 0 || union[last].Hi+1 < s.Lo {
			union = append(union, s)
			continue
		}
		union[last].Hi = max(union[last].Hi, s.Hi)
	}
	return union, api.OK
}

// ascending returns the spans of a list by their first instants.
func ascending(l []api.Span) []api.Span {
	sorted := slices.Clone(l)
	slices.SortFunc(sorted, func(a, b api.Span) int {
		return cmp.Compare(a.Lo, b.Lo)
	})
	return sorted
}
