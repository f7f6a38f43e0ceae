package codec

// reader reads encodings from a text. Its methods report whether what they read is well-formed.
type reader struct {
	text string
	at   int
}

// value reads a value of at most the given depth.
func (r *reader) value(depth int) (Value, bool) {
	mark, ok := r.next()
	if !ok {
		return Value{}, false
	}
	count, ok := r.count()
	if !ok {
		return Value{}, false
	}
	switch mark {
	case numberMark:
		return Num(unfold(count)), true
	case textMark:
		return r.rest(count)
	case listMark:
		return r.list(count, depth)
	}
	return Value{}, false
}

func (r *reader) next() (byte, bool) {
	if r.at == len(r.text) {
		return 0, false
	}
	r.at++
	return r.text[r.at-1], true
}

// count reads a count. The tenth group has the highest bit of 64, so it is 1 and the last one.
func (r *reader) count() (uint64, bool) {
	n := uint64(0)
	for shift := 0; ; shift += 7 {
		group, ok := r.next()
		if !ok || shift == 63 && group > 1 {
			return 0, false
		}
		n |= uint64(group%128) << shift
		if group < 128 {
			return n, group > 0 || shift == 0
		}
	}
}

// rest reads the bytes of a text.
func (r *reader) rest(count uint64) (Value, bool) {
	if count > uint64(len(r.text)-r.at) {
		return Value{}, false
	}
	from := r.at
	r.at += int(count)
	return Str(r.text[from:r.at]), true
}

// list reads the items of a list. It makes room only for items that it has read: the count may be false.
func (r *reader) list(count uint64, depth int) (Value, bool) {
	if depth == 0 {
		return Value{}, false
	}
	v := Value{Kind: List}
	for range count {
		item, ok := r.value(depth - 1)
		if !ok {
			return Value{}, false
		}
		v.Items = append(v.Items, item)
	}
	return v, true
}
