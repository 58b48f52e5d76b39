package save

import "furcate/api"

// missing is what a reader panics with where bytes are missing: so no part of it need ask for each of its own.
type missing struct{}

// reader takes parts from the beginning on.
type reader struct{ left []byte }

// read takes a source and its timelines, or nothing, where bytes are missing.
func read(b []byte) (src string, w api.Wood) {
	defer func() {
		if recover() != nil {
			src, w = "", api.Wood{}
		}
	}()
	r := reader{b}
	r.bytes(head + 1)
	src = string(r.bytes(r.low(2)))
	for range r.low(1) {
		w.L = append(w.L, r.branch())
	}
	w.Cur = r.low(1)
	w.Time = r.low(1)
	return src, w
}

func (r *reader) bytes(n int) []byte {
	if n > len(r.left) {
		panic(missing{})
	}
	out := r.left[:n]
	r.left = r.left[n:]
	return out
}

// low is the number of so many bytes, the lowest first.
func (r *reader) low(size int) int {
	n := uint64(0)
	for i, c := range r.bytes(size) {
		n |= uint64(c) << (8 * i)
	}
	return int(n)
}

func (r *reader) name() string { return string(r.bytes(r.low(1))) }

func (r *reader) branch() api.Branch {
	b := api.Branch{Name: r.name()}
	for range r.low(1) {
		b.Inputs = append(b.Inputs, r.low(8))
	}
	b.Base = r.edits()
	b.Own = r.edits()
	return b
}

func (r *reader) edits() []api.Edit {
	var out []api.Edit
	for range r.low(1) {
		x := api.Edit{At: r.low(1), Name: r.name()}
		x.V.Type = r.low(1)
		switch x.V.Type {
		case api.TyInt:
			x.V.N = r.low(8)
		case api.TyBool:
			x.V.N = r.low(1)
		case api.TyText:
			x.V.S = r.name()
		}
		out = append(out, x)
	}
	return out
}
