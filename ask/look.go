package ask

import (
	"wattle/api"
	"wattle/flat"
	"wattle/reach"
)

// wanted gives what is looked for by a plan.
type wanted func(p api.Plan) []api.Want

// only wants what one list selects, and another one doesn't.
func only(a, b int) wanted {
	return func(p api.Plan) []api.Want { return reach.Only(p, a, b) }
}

// look looks for what is wanted of the plan of some lists: in one way, and, if there is nothing, in the next one. The ways are numbered like those in which two lists differ.
func look(names api.Names, budget int, ways []wanted, lists ...[]api.Complex) (api.Verdict, error) {
	p, err := flat.Make(lists, names)
	if err != nil {
		return api.Verdict{}, err
	}
	steps := 0
	for i, wants := range ways {
		some := wants(p)
		found, more, err := reach.Search(p, some, budget-steps)
		steps += more
		if err != nil {
			return unfound(steps, err)
		}
		if found.OK {
			v, err := witness(p, some, found.Path)
			v.Way, v.Steps = api.WayFirst+i, steps
			return v, err
		}
	}
	return unfound(steps, nil)
}

// unfound gives the verdict that there is nothing; beside an error there is none, but the steps are told.
func unfound(steps int, err error) (api.Verdict, error) {
	v := api.Verdict{Kind: api.No, Steps: steps}
	if err != nil {
		v.Kind = 0
	}
	return v, err
}

// opposite gives the other answer.
func opposite(kind int) int {
	switch kind {
	case api.No:
		return api.Yes
	case api.Yes:
		return api.No
	}
	return kind
}
