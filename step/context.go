package step

import "wattle/api"

// fresh gives a context in which nothing is true, and nothing is counted.
func fresh(p api.Plan) api.Context {
	n := steps(p)
	return api.Context{Up: make([]bool, n), Left: make([]bool, n), Counts: make([]int, len(p.Counters))}
}

// steps gives how many steps a plan's rows have. What the plan itself says of that may be any number, if nobody made it out of lists.
func steps(p api.Plan) (n int) {
	for _, r := range p.Rows {
		n += len(r.Steps)
	}
	return n
}

// tell puts into out which steps fit a neighbour: of those that are kept as near the last one, whose truths there are; of those kept as far any one, so what was told of those further off still holds.
func tell(out []bool, kept []int, far, near int, before, truths []bool) {
	for n, comb := range kept {
		switch comb {
		case far:
			if at(before, n) {
				out[n] = true
				break
			}
			fallthrough
		case near:
			out[n] = at(truths, n)
		}
	}
}

// at gives what stands at a place of a list; its zero value, if the list is too short.
func at[T any](list []T, n int) (none T) {
	if n < 0 || n >= len(list) {
		return none
	}
	return list[n]
}
