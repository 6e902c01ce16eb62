package sel

import "wattle/api"

// Spec gives a selector's specificity.
func Spec(c api.Complex) api.Spec {
	var out api.Spec
	for s := range simples(c) {
		out = plus(out, specOf(s))
	}
	return out
}

// Less tells whether one specificity is less than another one.
func Less(a, b api.Spec) bool {
	switch {
	case a.A != b.A:
		return a.A < b.A
	case a.B != b.B:
		return a.B < b.B
	}
	return a.C < b.C
}

// specOf gives a simple selector's specificity.
func specOf(s api.Simple) (out api.Spec) {
	switch s.Kind {
	case api.SelID:
		out.A = 1
	case api.SelClass, api.SelAttr, api.SelRoot, api.SelState, api.SelLink:
		out.B = 1
	case api.SelType, api.SelPseudo:
		out.C = 1
	case api.SelNth:
		out.B = 1
		fallthrough
	case api.SelIs, api.SelNot:
		out = plus(out, greatest(s.Of))
	}
	return out
}

func plus(a, b api.Spec) api.Spec { return api.Spec{A: a.A + b.A, B: a.B + b.B, C: a.C + b.C} }

// greatest gives the greatest specificity of some selectors.
func greatest(list []api.Complex) (out api.Spec) {
	for _, c := range list {
		if x := Spec(c); Less(out, x) {
			out = x
		}
	}
	return out
}
