package book

import (
	"slices"

	"repartee/api"
)

// Root returns the node at which the local type of this name begins.
func Root(b api.Book, name string) (int, bool) {
	if !May(b) {
		return 0, false
	}
	return root(b, name)
}

// root is Root for a book whose names and roots are valid.
func root(b api.Book, name string) (int, bool) {
	i, is := slices.BinarySearch(b.Names, name)
	if !is {
		return 0, false
	}
	return b.Roots[i], true
}

// Sort returns the sort of what c says.
func Sort(b api.Book, c api.Carries) (api.Sort, bool) {
	// The book gives the roots of names; of all else it tells nothing.
	if c.Kind == api.Chan && !May(b) {
		return api.Sort{}, false
	}
	return resolve(b, c)
}

// resolve is Sort for a book whose names and roots are valid.
func resolve(b api.Book, c api.Carries) (api.Sort, bool) {
	if c.Kind == api.Chan {
		at, is := root(b, c.Name)
		if !is {
			return api.Sort{}, false
		}
		return api.Sort{Kind: api.Chan, At: at}, true
	}
	if c.Kind < api.Unit || c.Kind > api.Chan || c.Name != "" {
		return api.Sort{}, false
	}
	return api.Sort{Kind: c.Kind}, true
}
