package codec

// The bytes with which encodings begin.
const (
	numberMark = 'n'
	textMark   = 't'
	listMark   = 'l'
)

// appendValue appends the encoding of a value that can be encoded.
func appendValue(out []byte, v Value) []byte {
	out = append(appendHead(out, v), v.S...)
	for _, item := range v.Items {
		out = appendValue(out, item)
	}
	return out
}

// appendHead appends the mark and the count of a possible value.
func appendHead(out []byte, v Value) []byte {
	switch v.Kind {
	case Number:
		return appendCount(append(out, numberMark), fold(v.N))
	case Text:
		return appendCount(append(out, textMark), uint64(len(v.S)))
	default:
		return appendCount(append(out, listMark), uint64(len(v.Items)))
	}
}

func appendCount(out []byte, n uint64) []byte {
	for n >= 128 {
		out = append(out, byte(n%128)+128)
		n /= 128
	}
	return append(out, byte(n))
}

// fold returns 2n, or -2n - 1 if n is negative. It writes -n - 1 as the complement of n, because -n may not be an int64.
func fold(n int64) uint64 {
	if n < 0 {
		return 2*uint64(^n) + 1
	}
	return 2 * uint64(n)
}

func unfold(n uint64) int64 {
	half := int64(n / 2)
	if n%2 == 1 {
		return ^half
	}
	return half
}
