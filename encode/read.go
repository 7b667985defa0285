package encode

import "specie/api"

// A reader reads items from bytes, up to the first error, which it keeps: after it nothing is read any more.
type reader struct {
	b   []byte
	at  int
	err api.Errno
}

// item reads an item within so many lists.
func (r *reader) item(level int) api.Item {
	i := api.Item{Kind: int(r.number(kindSize))}
	switch {
	case i.Kind == api.ItemInt:
		i.N = int(r.number(numberSize))
	case i.Kind == api.ItemBytes:
		// nothing of the result may be a part of the argument
		i.B = append(i.B, r.take(r.number(countSize))...)
	case i.Kind == api.ItemList && level < deepest:
		i.L = r.list(level + 1)
	default:
		r.fail(api.ErrForm)
	}
	return i
}

// list reads the items of a list, which are within so many lists, and their number.
func (r *reader) list(level int) []api.Item {
	n := r.number(countSize)
	if n > api.MaxList {
		r.fail(api.ErrForm)
	}
	var l []api.Item
	for uint64(len(l)) < n && r.err == api.OK {
		l = append(l, r.item(level))
	}
	return l
}

// number reads a number of so many bytes, the most significant one first.
func (r *reader) number(size uint64) uint64 {
	n := uint64(0)
	for _, x := range r.take(size) {
		n = n<<8 | uint64(x)
	}
	return n
}

// take reads so many bytes, or none of them.
func (r *reader) take(n uint64) []byte {
	if n > uint64(len(r.b)-r.at) {
		r.fail(api.ErrEnd)
	}
	if r.err != api.OK {
		return nil
	}
	from := r.at
	r.at += int(n)
	return r.b[from:r.at]
}

// end makes sure that no bytes are left.
func (r *reader) end() {
	if r.at < len(r.b) {
		r.fail(api.ErrForm)
	}
}

func (r *reader) fail(e api.Errno) {
	if r.err == api.OK {
		r.err = e
	}
}
