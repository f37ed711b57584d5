package codec

// reader reads encodings from a string. After a method has returned false, where it stands has no meaning.
type reader struct {
	s  string
	at int
}

// value reads a value that stands in as many lists as level says.
func (r *reader) value(level int) (Value, bool) {
	if r.at == len(r.s) {
		return Value{}, false
	}
	mark := r.s[r.at]
	r.at++
	switch mark {
	case numberMark:
		n, ok := r.count()
		return Num(unfold(n)), ok
	case textMark:
		return r.text()
	case listMark:
		return r.list(level)
	}
	return Value{}, false
}

func (r *reader) text() (Value, bool) {
	n, ok := r.count()
	if !ok || n > r.rest() {
		return Value{}, false
	}
	start := r.at
	r.at += int(n)
	return Str(r.s[start:r.at]), true
}

func (r *reader) list(level int) (Value, bool) {
	n, ok := r.count()
	// An item has at least 2 bytes: a count that promises more than there can be is refused before anything is built.
	if !ok || level == MaxDepth || n > r.rest()/2 {
		return Value{}, false
	}
	v := Value{Kind: List}
	for range n {
		item, ok := r.value(level + 1)
		if !ok {
			return Value{}, false
		}
		v.Items = append(v.Items, item)
	}
	return v, true
}

// count refuses a last group of 0, which is one too many, and bits beyond the 64th.
func (r *reader) count() (uint64, bool) {
	n := uint64(0)
	for shift := 0; r.at < len(r.s); shift += 7 {
		b := r.s[r.at]
		r.at++
		group := uint64(b % 128)
		if group<<shift>>shift != group {
			return 0, false
		}
		n |= group << shift
		if b < 128 {
			return n, group != 0 || shift == 0
		}
	}
	return 0, false
}

func (r *reader) rest() uint64 { return uint64(len(r.s) - r.at) }
