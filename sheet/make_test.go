package sheet_test

import (
	"errors"
	"fmt"
	"strings"

	"wattle/api"
	"wattle/token"
	"wattle/write"
)

// read gives the tokens of a text, with the end.
func read(s string) []api.Token { return token.Read([]byte(s)) }

// tellNames tells namespaces in a line.
func tellNames(names api.Names) string {
	var out []string
	if names.HasDefault || names.Default != "" {
		out = append(out, fmt.Sprintf("%q", names.Default))
	}
	for i, prefix := range names.Prefixes {
		out = append(out, fmt.Sprintf("%s=%q", prefix, names.Spaces[i]))
	}
	return strings.Join(out, ", ")
}

// tellStyles tells styles in lines, each with its place, its error or its selectors, its conditions and its declarations.
func tellStyles(list []api.Style) string {
	var out []string
	for _, x := range list {
		line := fmt.Sprintf("%d", x.Place)
		if x.Err != 0 {
			line += fmt.Sprintf(" error %d", x.Err)
		}
		if len(x.List) > 0 {
			line += " " + write.Text(x.List)
		}
		if len(x.Conds) > 0 {
			line += fmt.Sprintf(" in %v", x.Conds)
		}
		for _, d := range x.Decls {
			line += fmt.Sprintf(" {%s|%s}", d.Name, d.Text)
			if d.Important {
				line += "!"
			}
		}
		out = append(out, line)
	}
	return strings.Join(out, "\n")
}

// isFault tells whether an error is, by itself, of a kind at a place; of the kind 0, whether it is none.
func isFault(err error, kind api.Errno, at int) bool {
	var f *api.Fault
	if kind == 0 {
		return err == nil
	}
	return errors.As(err, &f) && err == error(f) && f.Kind == kind && f.At == at && errors.Is(err, kind)
}

// picker gives a function that gives numbers below another one, always the same ones of a seed.
func picker(seed uint64) func(n int) int {
	return func(n int) int {
		seed = seed*6364136223846793005 + 1442695040888963407
		return int(seed>>33) % n
	}
}
