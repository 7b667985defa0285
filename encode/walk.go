package encode

import (
	"bytes"

	"specie/api"
)

// A span is where the items of a list lie that is not empty.
type span struct {
	first *api.Item
	count int
}

func spanOf(l []api.Item) span { return span{&l[0], len(l)} }

// A place is a span, and the number of lists around its items.
type place struct {
	span
	level int
}

// A checker finds out whether items are valid, and remembers which lists are. Lists may share their items, so that a few spans make an item of 1000^8 items: nobody can walk them all, as often as they occur.
type checker map[place]bool

// item reports whether an item within so many lists is valid.
func (c checker) item(i api.Item, level int) bool {
	switch i.Kind {
	case api.ItemInt:
		return len(i.B) == 0 && len(i.L) == 0
	case api.ItemBytes:
		return i.N == 0 && len(i.L) == 0
	case api.ItemList:
		return i.N == 0 && len(i.B) == 0 && level < deepest && c.list(i.L, level+1)
	}
	return false
}

// list reports whether the items of a list, which are within so many lists, are valid, and not too many.
func (c checker) list(l []api.Item, level int) bool {
	if len(l) == 0 || len(l) > api.MaxList {
		return len(l) == 0
	}
	p := place{spanOf(l), level}
	if c[p] {
		return true
	}
	for _, x := range l {
		if !c.item(x, level) {
			return false
		}
	}
	c[p] = true
	return true
}

// A comparer compares valid items, and remembers which lists are equal, for the same reason.
type comparer map[[2]span]bool

func (c comparer) items(a, b api.Item) bool {
	return a.Kind == b.Kind && a.N == b.N && bytes.Equal(a.B, b.B) && c.lists(a.L, b.L)
}

func (c comparer) lists(a, b []api.Item) bool {
	if len(a) != len(b) || len(a) == 0 {
		return len(a) == len(b)
	}
	p := [2]span{spanOf(a), spanOf(b)}
	if c[p] {
		return true
	}
	for i := range a {
		if !c.items(a[i], b[i]) {
			return false
		}
	}
	c[p] = true
	return true
}
