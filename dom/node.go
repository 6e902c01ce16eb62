package dom

import (
	"slices"
	"strings"

	"wattle/api"
	"wattle/decode"
	"wattle/sel"
)

// rightNode tells whether a node is right behind some that are.
func rightNode(n api.Node, ahead []api.Node) bool {
	if !rightParent(n.Parent, ahead) {
		return false
	}
	switch n.Kind {
	case api.NodeElement:
		return n.Text == "" && isRight(n.Space) && isName(n.Name) && rightAttrs(n.Attrs) && rightStates(n.States)
	case api.NodeText:
		if n.Parent == none {
			return false
		}
		fallthrough
	case api.NodeComment:
		return isRight(n.Text) && sameNode(n, api.Node{Parent: n.Parent, Kind: n.Kind, Text: n.Text})
	}
	return false
}

func rightParent(n int, ahead []api.Node) bool {
	return n == none || n >= 0 && n < len(ahead) && ahead[n].Kind == api.NodeElement
}

func rightAttrs(list []api.Attr) bool {
	seen := map[api.Attr]struct{}{} // without values
	for _, a := range list {
		name := api.Attr{Space: a.Space, Name: a.Name}
		if _, twice := seen[name]; twice || !isRight(a.Space) || !isName(a.Name) || !isRight(a.Value) {
			return false
		}
		seen[name] = struct{}{}
	}
	return true
}

func rightStates(list []string) bool {
	for i, name := range list {
		if !sel.State(name) || slices.Contains(list[:i], name) {
			return false
		}
	}
	return true
}

func isName(s string) bool { return s != "" && isRight(s) }

func isRight(s string) bool { return decode.Right([]byte(s)) }

func sameNode(a, b api.Node) bool {
	return a.Parent == b.Parent && a.Kind == b.Kind && a.Space == b.Space && a.Name == b.Name && a.Text == b.Text &&
		slices.Equal(a.Attrs, b.Attrs) && slices.Equal(a.States, b.States)
}

func copyNode(n api.Node) api.Node {
	n.Space, n.Name, n.Text = strings.Clone(n.Space), strings.Clone(n.Name), strings.Clone(n.Text)
	n.Attrs, n.States = copied(n.Attrs, copyAttr), copied(n.States, strings.Clone)
	return n
}

func copyAttr(a api.Attr) api.Attr {
	return api.Attr{Space: strings.Clone(a.Space), Name: strings.Clone(a.Name), Value: strings.Clone(a.Value)}
}

// copied gives a list, each part of which a function has copied, without any spare room.
func copied[T any](list []T, one func(T) T) []T {
	out := make([]T, len(list))
	for i, x := range list {
		out[i] = one(x)
	}
	return out
}
