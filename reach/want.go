package reach

import (
	"slices"

	"wattle/api"
	"wattle/flat"
)

// nothing is the number of a list that there isn't.
const nothing = -1

// Both gives what wants subjects that two lists of a plan select.
func Both(p api.Plan, a, b int) []api.Want { return wants(p, []int{a, b}, nothing) }

// Only gives what wants subjects that one list of a plan selects, and another one doesn't.
func Only(p api.Plan, a, b int) []api.Want { return wants(p, []int{a}, b) }

// One gives what wants subjects that a list of a plan selects.
func One(p api.Plan, a int) []api.Want { return wants(p, []int{a}, nothing) }

// wants gives, for each pseudo-element, what wants subjects that all of some lists select, and one doesn't.
func wants(p api.Plan, all []int, none int) (out []api.Want) {
	for _, pseudo := range flat.Pseudos(p) {
		w := api.Want{Pseudo: pseudo, None: rows(p, none, pseudo)}
		for _, list := range all {
			w.All = append(w.All, rows(p, list, pseudo))
		}
		if !slices.ContainsFunc(w.All, func(rows []int) bool { return len(rows) == 0 }) {
			out = append(out, w)
		}
	}
	return out
}

// rows gives the numbers of a list's rows that select a pseudo-element (or elements, if it is none).
func rows(p api.Plan, list int, pseudo string) (out []int) {
	if list < 0 || list >= len(p.Lists) {
		return nil
	}
	for _, n := range p.Lists[list] {
		if n >= 0 && n < len(p.Rows) && p.Rows[n].Pseudo == pseudo {
			out = append(out, n)
		}
	}
	return out
}
