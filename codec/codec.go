// Package codec is layer 2: a canonical encoding of trees of numbers and texts, and a digest. See shared/doc/02-codec.md.
package codec

import (
	"cmp"
	"slices"
	"strings"

	"gangsaw/api"
)

// The kinds of values.
const (
	Number = 1
	Text   = 2
	List   = 3
)

// Limits of values.
const (
	MaxDepth = 16
	MaxBytes = 1000000 // bytes of an encoding
)

// Value is a number (N), a text (S), or a list of values (Items).
type Value struct {
	Kind  int
	N     int64
	S     string
	Items []Value
}

// Num returns the value of a number.
func Num(n int64) Value {
	return Value{Kind: Number, N: n}
}

// Str returns the value of a text.
func Str(s string) Value {
	return Value{Kind: Text, S: s}
}

// Seq returns the value of a list.
func Seq(items ...Value) Value {
	return Value{Kind: List, Items: copied(items)}
}

// Check returns OK for a value that can be encoded, or the first error.
func Check(v Value) api.Errno {
	if !possible(v) {
		return api.ErrInvalid
	}
	if !fits(v) {
		return api.ErrTooMany
	}
	return api.OK
}

// Encode returns the encoding of a value.
func Encode(v Value) (string, api.Errno) {
	if e := Check(v); e != api.OK {
		return "", e
	}
	return string(appendValue(nil, v)), api.OK
}

// Decode returns the value of an encoding.
func Decode(s string) (Value, api.Errno) {
	v, n, e := First(s)
	if e != api.OK {
		return Value{}, e
	}
	if n < len(s) {
		return Value{}, api.ErrSyntax
	}
	return v, api.OK
}

// First returns the value with whose encoding a string begins, and the length of this encoding.
func First(s string) (Value, int, api.Errno) {
	if len(s) > MaxBytes {
		return Value{}, 0, api.ErrTooMany
	}
	r := reader{text: s}
	v, ok := r.value(MaxDepth)
	if !ok {
		return Value{}, 0, api.ErrSyntax
	}
	return v, r.at, api.OK
}

// Equal reports whether two values are the same.
func Equal(a, b Value) bool {
	return a.Kind == b.Kind && a.N == b.N && a.S == b.S && slices.EqualFunc(a.Items, b.Items, Equal)
}

// Compare compares two values: numbers before texts before lists, then by what they contain.
func Compare(a, b Value) int {
	if a.Kind != b.Kind {
		return cmp.Compare(a.Kind, b.Kind)
	}
	if a.N != b.N {
		return cmp.Compare(a.N, b.N)
	}
	if a.S != b.S {
		return strings.Compare(a.S, b.S)
	}
	return slices.CompareFunc(a.Items, b.Items, Compare)
}

// copied copies the lists within lists too, since a result shares no memory with an argument.
func copied(items []Value) []Value {
	var list []Value
	for _, item := range items {
		item.Items = copied(item.Items)
		list = append(list, item)
	}
	return list
}

func possible(v Value) bool {
	switch v.Kind {
	case Number:
		return v.S == "" && len(v.Items) == 0
	case Text:
		return v.N == 0 && len(v.Items) == 0
	case List:
		return v.N == 0 && v.S == "" && allPossible(v.Items)
	}
	return false
}

func allPossible(items []Value) bool {
	for _, item := range items {
		if !possible(item) {
			return false
		}
	}
	return true
}

// fits reports whether a possible value is neither too deep nor too long. It stops as soon as the limit is passed.
func fits(v Value) bool {
	room := MaxBytes
	var take func(v Value, depth int) bool
	take = func(v Value, depth int) bool {
		room -= len(appendHead(nil, v)) + len(v.S)
		if room < 0 || v.Kind == List && depth == 0 {
			return false
		}
		for _, item := range v.Items {
			if !take(item, depth-1) {
				return false
			}
		}
		return true
	}
	return take(v, MaxDepth)
}
