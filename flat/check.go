package flat

import (
	"slices"
	"sort"

	"wattle/api"
	"wattle/sel"
)

// firstWrong gives the place of the first list that isn't right, or, if there is none, how many lists there are. Many are asked about at once, since each time layer 8 looks at all namespaces, too.
func firstWrong(lists [][]api.Complex, names api.Names) int {
	return sort.Search(len(lists), func(last int) bool { return !areRight(lists[:last+1], names) })
}

// areRight tells whether some lists are right: none is empty, and all their selectors are right, which they are in one list, too.
func areRight(lists [][]api.Complex, names api.Names) bool {
	isEmpty := func(list []api.Complex) bool { return len(list) == 0 }
	return !slices.ContainsFunc(lists, isEmpty) && sel.Check(slices.Concat(lists...), names) == nil
}
