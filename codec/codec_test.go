package codec_test

import (
	"fmt"
	"math"
	"math/big"
	"math/rand"
	"slices"
	"strings"
	"testing"

	"gangsaw/api"
	"gangsaw/codec"
)

var examples = map[string]codec.Value{
	"n\x00":                codec.Num(0),
	"n\x02":                codec.Num(1),
	"n\x01":                codec.Num(-1),
	"n\x7e":                codec.Num(63),
	"n\x7f":                codec.Num(-64),
	"n\x80\x01":            codec.Num(64),
	"n\x81\x01":            codec.Num(-65),
	"n\xfe\x7f":            codec.Num(8191),
	"n\x80\x80\x01":        codec.Num(8192),
	"t\x00":                codec.Str(""),
	"t\x02ab":              codec.Str("ab"),
	"t\x03\x00\xff\x80":    codec.Str("\x00\xff\x80"),
	"l\x00":                codec.Seq(),
	"l\x01l\x00":           codec.Seq(codec.Seq()),
	"l\x02n\x02t\x02ab":    codec.Seq(codec.Num(1), codec.Str("ab")),
	"l\x02l\x01n\x00t\x00": codec.Seq(codec.Seq(codec.Num(0)), codec.Str("")),

	"n\xfe\xff\xff\xff\xff\xff\xff\xff\xff\x01": codec.Num(math.MaxInt64),
	"n\xff\xff\xff\xff\xff\xff\xff\xff\xff\x01": codec.Num(math.MinInt64),

	"t\x80\x01" + strings.Repeat("x", 128):      codec.Str(strings.Repeat("x", 128)),
	"t\x7f" + strings.Repeat("x", 127):          codec.Str(strings.Repeat("x", 127)),
	"l\x80\x01" + strings.Repeat("n\x00", 128):  codec.Seq(slices.Repeat([]codec.Value{codec.Num(0)}, 128)...),
	"l\xac\x02" + strings.Repeat("t\x01y", 300): codec.Seq(slices.Repeat([]codec.Value{codec.Str("y")}, 300)...),
}

// nested returns a value within so many lists.
func nested(v codec.Value, lists int) codec.Value {
	for range lists {
		v = codec.Value{Kind: codec.List, Items: []codec.Value{v}}
	}
	return v
}

func isZero(v codec.Value) bool {
	return v.Kind == 0 && v.N == 0 && v.S == "" && len(v.Items) == 0
}

func TestSignatures(t *testing.T) {
	var _ func(int64) codec.Value = codec.Num
	var _ func(string) codec.Value = codec.Str
	var _ func(...codec.Value) codec.Value = codec.Seq
	var _ func(codec.Value) api.Errno = codec.Check
	var _ func(codec.Value) (string, api.Errno) = codec.Encode
	var _ func(string) (codec.Value, api.Errno) = codec.Decode
	var _ func(string) (codec.Value, int, api.Errno) = codec.First
	var _ func(a, b codec.Value) bool = codec.Equal
	var _ func(a, b codec.Value) int = codec.Compare
	var _ func(string) string = codec.Digest
	if codec.Number != 1 || codec.Text != 2 || codec.List != 3 || codec.MaxDepth != 16 || codec.MaxBytes != 1000000 {
		t.Error("constants")
	}
}

func TestConstructors(t *testing.T) {
	for _, n := range []int64{0, 7, -7, math.MaxInt64, math.MinInt64} {
		if v := codec.Num(n); v.Kind != codec.Number || v.N != n || v.S != "" || len(v.Items) != 0 {
			t.Errorf("Num: %v", v)
		}
	}
	for _, s := range []string{"", "ab", "\xff\x00"} {
		if v := codec.Str(s); v.Kind != codec.Text || v.N != 0 || v.S != s || len(v.Items) != 0 {
			t.Errorf("Str: %v", v)
		}
	}
	if v := codec.Seq(); v.Kind != codec.List || v.N != 0 || v.S != "" || len(v.Items) != 0 {
		t.Errorf("Seq: %v", v)
	}
	if v := codec.Seq(codec.Num(4), codec.Value{Kind: 9, N: 1, S: "x"}); v.Kind != codec.List || v.N != 0 || v.S != "" || fmt.Sprint(v.Items) != "[{1 4  []} {9 1 x []}]" {
		t.Errorf("Seq: %v", v)
	}
}

func TestSeqCopies(t *testing.T) {
	inner := []codec.Value{codec.Num(1), codec.Num(2)}
	items := []codec.Value{{Kind: codec.List, Items: inner}, codec.Str("a"), {Kind: codec.List, Items: inner}}
	first, second := codec.Seq(items...), codec.Seq(items...)
	inner[0] = codec.Num(9)
	items[1] = codec.Str("b")
	want := codec.Seq(codec.Seq(codec.Num(1), codec.Num(2)), codec.Str("a"), codec.Seq(codec.Num(1), codec.Num(2)))
	if !codec.Equal(first, want) {
		t.Errorf("Seq shares memory with its arguments: %v", first)
	}
	first.Items[0].Items[1] = codec.Num(8)
	if !codec.Equal(first.Items[2], want.Items[2]) || !codec.Equal(second, want) || inner[1].N != 2 {
		t.Errorf("two results share memory: %v, %v", first, second)
	}
}

func TestExamples(t *testing.T) {
	for s, v := range examples {
		if e := codec.Check(v); e != api.OK {
			t.Errorf("Check of %v: %d", v, e)
		}
		if got, e := codec.Encode(v); got != s || e != api.OK {
			t.Errorf("Encode of %v: %q, %d", v, got, e)
		}
		if got, e := codec.Decode(s); !codec.Equal(got, v) || e != api.OK {
			t.Errorf("Decode of %q: %v, %d", s, got, e)
		}
		for _, rest := range []string{"", "n", "n\x00", "\x80", "junk"} {
			if got, n, e := codec.First(s + rest); !codec.Equal(got, v) || n != len(s) || e != api.OK {
				t.Errorf("First of %q: %v, %d, %d", s+rest, got, n, e)
			}
			if got, e := codec.Decode(s + rest); rest != "" && (!isZero(got) || e != api.ErrSyntax) {
				t.Errorf("Decode of %q: %v, %d", s+rest, got, e)
			}
		}
		for n := range len(s) {
			if got, e := codec.Decode(s[:n]); !isZero(got) || e != api.ErrSyntax {
				t.Errorf("Decode of %q: %v, %d", s[:n], got, e)
			}
			if got, k, e := codec.First(s[:n]); !isZero(got) || k != 0 || e != api.ErrSyntax {
				t.Errorf("First of %q: %v, %d, %d", s[:n], got, k, e)
			}
		}
	}
}

func TestSyntax(t *testing.T) {
	for _, s := range []string{
		"", "\x00", "x\x00", "N\x00", "n", "t", "l", "l\x01", "l\x02n\x00", "l\x01x\x00", "t\x01", "t\x03ab",
		"n\x80", "n\x80\x00", "n\x80\x80\x00", "n\x81\x00", "t\x80\x00", "t\x81\x00a", "l\x80\x00", "l\x81\x00n\x00", "l\x01n\x80\x00",
		"n\xff\xff\xff\xff\xff\xff\xff\xff\xff\x02", "n\x80\x80\x80\x80\x80\x80\x80\x80\x80\x02", "n\xff\xff\xff\xff\xff\xff\xff\xff\xff\x81\x00",
		"n\x80\x80\x80\x80\x80\x80\x80\x80\x80\x00", "n\x80\x80\x80\x80\x80\x80\x80\x80\x80\x80\x01", "n" + strings.Repeat("\x80", 100) + "\x01",
		"t\xff\xff\xff\xff\xff\xff\xff\xff\xff\x01abc", "t\x80\x80\x80\x80\x80\x80\x80\x80\x80\x01abc", "t\xff\xff\xff\xff\xff\xff\xff\xff\x7fabc",
		"l\xff\xff\xff\xff\xff\xff\xff\xff\xff\x01n\x00", "l\x80\x80\x80\x80\x80\x80\x80\x80\x80\x01n\x00", "l\xff\xff\xff\xff\x7fn\x00",
		strings.Repeat("l\x01", 16) + "l\x00", strings.Repeat("l\x01", 17) + "n\x00", strings.Repeat("l\x01", 500000),
	} {
		if v, e := codec.Decode(s); !isZero(v) || e != api.ErrSyntax {
			t.Errorf("Decode of %.40q: %v, %d", s, v, e)
		}
		if v, n, e := codec.First(s); !isZero(v) || n != 0 || e != api.ErrSyntax {
			t.Errorf("First of %.40q: %v, %d, %d", s, v, n, e)
		}
	}
}

func TestDepth(t *testing.T) {
	for _, v := range []codec.Value{codec.Num(5), codec.Str("x"), nested(codec.Seq(), 1)} {
		lists := codec.MaxDepth
		if v.Kind == codec.List {
			lists -= 2
		}
		most, over := nested(v, lists), nested(v, lists+1)
		s, e := codec.Encode(most)
		if e != api.OK || codec.Check(most) != api.OK {
			t.Fatalf("Encode of the greatest depth: %d", e)
		}
		if got, e := codec.Decode(s); e != api.OK || !codec.Equal(got, most) {
			t.Errorf("Decode of the greatest depth: %v, %d", got, e)
		}
		if got, n, e := codec.First(s + "x"); e != api.OK || n != len(s) || !codec.Equal(got, most) {
			t.Errorf("First of the greatest depth: %v, %d, %d", got, n, e)
		}
		if s, e := codec.Encode(over); s != "" || e != api.ErrTooMany || codec.Check(over) != api.ErrTooMany {
			t.Errorf("Encode of too great a depth: %q, %d", s, e)
		}
		if got, e := codec.Decode("l\x01" + s); !isZero(got) || e != api.ErrSyntax {
			t.Errorf("Decode of too great a depth: %v, %d", got, e)
		}
	}
	sideways := codec.Seq(codec.Num(1), nested(codec.Seq(), codec.MaxDepth-1), codec.Num(2))
	if e := codec.Check(sideways); e != api.ErrTooMany {
		t.Errorf("Check: %d", e)
	}
	deep := nested(codec.Num(1), 60000)
	if s, e := codec.Encode(deep); s != "" || e != api.ErrTooMany || !codec.Equal(deep, codec.Seq(deep).Items[0]) || codec.Compare(deep, nested(codec.Num(2), 60000)) != -1 {
		t.Errorf("a very deep value: %q, %d", s, e)
	}
}

func TestBytes(t *testing.T) {
	zeros := func(n int) codec.Value {
		return codec.Value{Kind: codec.List, Items: slices.Repeat([]codec.Value{codec.Num(0)}, n)}
	}
	for _, c := range []struct{ most, over codec.Value }{
		{codec.Str(strings.Repeat("x", 999996)), codec.Str(strings.Repeat("x", 999997))},
		{zeros(499998), zeros(499999)},
		{codec.Seq(codec.Str(strings.Repeat("x", 999994))), codec.Seq(codec.Str(strings.Repeat("x", 999995)))},
		{codec.Seq(codec.Str(strings.Repeat("x", 999992)), codec.Num(0)), codec.Seq(codec.Str(strings.Repeat("x", 999992)), codec.Num(64))},
	} {
		s, e := codec.Encode(c.most)
		if len(s) != codec.MaxBytes || e != api.OK || codec.Check(c.most) != api.OK {
			t.Fatalf("Encode of the greatest length: %d bytes, %d", len(s), e)
		}
		if v, e := codec.Decode(s); !codec.Equal(v, c.most) || e != api.OK {
			t.Errorf("Decode of the greatest length: %d", e)
		}
		if s, e := codec.Encode(c.over); s != "" || e != api.ErrTooMany || codec.Check(c.over) != api.ErrTooMany {
			t.Errorf("Encode of too great a length: %d bytes, %d", len(s), e)
		}
	}
	for _, s := range []string{strings.Repeat("x", codec.MaxBytes+1), "n\x00" + strings.Repeat("x", codec.MaxBytes-1)} {
		if v, e := codec.Decode(s); !isZero(v) || e != api.ErrTooMany {
			t.Errorf("Decode of a long string: %v, %d", v, e)
		}
		if v, n, e := codec.First(s); !isZero(v) || n != 0 || e != api.ErrTooMany {
			t.Errorf("First of a long string: %v, %d, %d", v, n, e)
		}
	}
	if v, n, e := codec.First("n\x00" + strings.Repeat("x", codec.MaxBytes-2)); !codec.Equal(v, codec.Num(0)) || n != 2 || e != api.OK {
		t.Errorf("First: %v, %d, %d", v, n, e)
	}
}

func TestImpossibleValues(t *testing.T) {
	one := []codec.Value{codec.Num(1)}
	long := codec.Str(strings.Repeat("x", codec.MaxBytes))
	bad := []codec.Value{
		{}, {Kind: 4}, {Kind: -1}, {Kind: math.MaxInt}, {Kind: math.MinInt},
		{Kind: codec.Number, S: "x"}, {Kind: codec.Number, Items: one},
		{Kind: codec.Text, N: 1}, {Kind: codec.Text, S: "x", Items: one},
		{Kind: codec.List, N: -1}, {Kind: codec.List, S: "x", Items: one},
	}
	for _, v := range bad {
		for _, w := range []codec.Value{v, nested(v, 1), nested(v, 16), nested(v, 40), codec.Seq(codec.Num(0), v, codec.Num(0)), codec.Seq(long, v), codec.Seq(nested(codec.Num(0), 30), v)} {
			if s, e := codec.Encode(w); s != "" || e != api.ErrInvalid || codec.Check(w) != api.ErrInvalid {
				t.Errorf("Encode with %v: %q, %d", v, s, e)
			}
		}
	}
	for _, v := range []codec.Value{{Kind: codec.Number, Items: []codec.Value{}}, {Kind: codec.Text, Items: []codec.Value{}}, {Kind: codec.List, Items: []codec.Value{}}} {
		if e := codec.Check(v); e != api.OK {
			t.Errorf("Check of %v with an empty list: %d", v, e)
		}
	}
}

// ordered are values from the least to the greatest one, impossible ones among them.
func ordered() []codec.Value {
	one := []codec.Value{codec.Num(1)}
	return []codec.Value{
		{Kind: -7, N: 9},
		{}, {Items: one}, {N: 1},
		{Kind: codec.Number, N: math.MinInt64}, codec.Num(-5), codec.Num(-1),
		codec.Num(0), {Kind: codec.Number, Items: one}, {Kind: codec.Number, S: "a"},
		codec.Num(3), codec.Num(math.MaxInt64),
		{Kind: codec.Text, N: -1, S: "z"},
		codec.Str(""), codec.Str("\x00"), codec.Str("a"), {Kind: codec.Text, S: "a", Items: one}, codec.Str("a\x00"), codec.Str("ab"), codec.Str("b"), codec.Str("\xff"),
		{Kind: codec.Text, N: 1},
		codec.Seq(), codec.Seq(codec.Num(1)), codec.Seq(codec.Num(1), codec.Num(0)), codec.Seq(codec.Num(1), codec.Str("")), codec.Seq(codec.Num(2)), codec.Seq(codec.Num(2), codec.Num(-9)),
		codec.Seq(codec.Str("")), codec.Seq(codec.Seq()), codec.Seq(codec.Seq(codec.Num(0))), codec.Seq(codec.Seq(codec.Num(0)), codec.Num(0)), codec.Seq(codec.Seq(codec.Num(1))),
		{Kind: codec.List, S: "x"}, {Kind: codec.List, N: 1},
		{Kind: 4},
	}
}

func TestOrder(t *testing.T) {
	list := ordered()
	for i, a := range list {
		for k, b := range list {
			want := 0
			if i < k {
				want = -1
			} else if i > k {
				want = 1
			}
			if c := codec.Compare(a, b); c != want || codec.Equal(a, b) != (want == 0) {
				t.Errorf("Compare of %v and %v: %d; Equal: %t", a, b, c, codec.Equal(a, b))
			}
			if c := codec.Compare(nested(a, 3), nested(b, 3)); c != want || codec.Equal(nested(a, 3), nested(b, 3)) != (want == 0) {
				t.Errorf("Compare of %v and %v within lists: %d", a, b, c)
			}
		}
	}
	empty := codec.Value{Kind: codec.List, Items: []codec.Value{}}
	if !codec.Equal(empty, codec.Seq()) || codec.Compare(codec.Value{Kind: codec.List}, empty) != 0 {
		t.Error("nil and empty lists are the same")
	}
}

func TestArgumentsAreNotChanged(t *testing.T) {
	v := codec.Seq(codec.Num(1), codec.Seq(codec.Str("a"), codec.Num(-3)), codec.Value{Kind: codec.List, Items: []codec.Value{}})
	w := codec.Seq(codec.Num(1), codec.Seq(codec.Str("b")))
	before := fmt.Sprint(v, w)
	s, _ := codec.Encode(v)
	codec.Check(v)
	codec.Compare(v, w)
	codec.Equal(v, w)
	codec.Seq(v, w)
	if fmt.Sprint(v, w) != before {
		t.Errorf("changed: %v, %v", v, w)
	}
	first, _ := codec.Decode(s)
	second, _ := codec.Decode(s)
	first.Items[1].Items[0] = codec.Num(8)
	if !codec.Equal(second, v) {
		t.Errorf("two results share memory: %v", second)
	}
}

// someValue makes a possible value of at most the given depth.
func someValue(random *rand.Rand, depth int) codec.Value {
	switch kind := random.Intn(4); {
	case kind == 0:
		return codec.Num(random.Int63()>>random.Intn(64) - random.Int63()>>random.Intn(64))
	case kind == 1 || depth == 0:
		text := make([]byte, random.Intn(4))
		random.Read(text)
		return codec.Str(string(text))
	}
	v := codec.Value{Kind: codec.List}
	for range random.Intn(4) {
		v.Items = append(v.Items, someValue(random, depth-1))
	}
	return v
}

func TestRoundTrips(t *testing.T) {
	random := rand.New(rand.NewSource(2))
	var values []codec.Value
	var texts []string
	for range 300 {
		v := someValue(random, 5)
		s, e := codec.Encode(v)
		if e != api.OK {
			t.Fatalf("Encode of %v: %d", v, e)
		}
		if w, e := codec.Decode(s); e != api.OK || !codec.Equal(w, v) || codec.Compare(w, v) != 0 {
			t.Errorf("Decode of %q: %v, %d", s, w, e)
		}
		values, texts = append(values, v), append(texts, s)
	}
	for i, a := range values {
		for k, b := range values {
			same := codec.Equal(a, b)
			if (texts[i] == texts[k]) != same || !same && strings.HasPrefix(texts[i], texts[k]) {
				t.Errorf("encodings of %v and %v", a, b)
			}
			if c := codec.Compare(a, b); c != -codec.Compare(b, a) || (c == 0) != same {
				t.Errorf("Compare of %v and %v: %d", a, b, c)
			}
		}
	}
	slices.SortFunc(values, codec.Compare)
	for i := range values {
		for k := range i {
			if codec.Compare(values[k], values[i]) > 0 {
				t.Errorf("the order is not transitive at %v and %v", values[k], values[i])
			}
		}
	}
}

// TestShortStrings decodes all strings of up to 5 bytes of an alphabet: each is refused, or is the encoding of its value.
func TestShortStrings(t *testing.T) {
	alphabet := "ntl\x00\x01\x02\x7f\x80\x81\xff"
	var try func(s string)
	try = func(s string) {
		v, e := codec.Decode(s)
		if e == api.OK {
			if w, e := codec.Encode(v); w != s || e != api.OK {
				t.Errorf("%q is decoded as %v, whose encoding is %q", s, v, w)
			}
		} else if e != api.ErrSyntax || !isZero(v) {
			t.Errorf("Decode of %q: %v, %d", s, v, e)
		}
		if w, n, f := codec.First(s); f == api.OK {
			if x, e := codec.Decode(s[:n]); e != api.OK || !codec.Equal(w, x) {
				t.Errorf("First of %q: %v, %d", s, w, n)
			}
		} else if e == api.OK || f != api.ErrSyntax || n != 0 || !isZero(w) {
			t.Errorf("First of %q: %v, %d, %d", s, w, n, f)
		}
		if len(s) < 5 {
			for i := range len(alphabet) {
				try(s + alphabet[i:i+1])
			}
		}
	}
	try("")
}

// slowDigest follows the definition with numbers of any size.
func slowDigest(s string) string {
	word := new(big.Int).Lsh(big.NewInt(1), 64)
	h, _ := new(big.Int).SetString("11400714819323198485", 10)
	factor, _ := new(big.Int).SetString("18397679294719823053", 10)
	for i := range len(s) {
		h.Lsh(h, 7)
		h.Add(new(big.Int).Mod(h, word), new(big.Int).Rsh(h, 64))
		h.Xor(h, big.NewInt(int64(s[i])))
		h.Mod(h.Mul(h, factor), word)
	}
	h.Xor(h, new(big.Int).Rsh(h, 32))
	return fmt.Sprintf("%016x", h)
}

func TestDigest(t *testing.T) {
	if d := codec.Digest(""); d != "9e3779b9e17d05ac" {
		t.Errorf("Digest of nothing: %s", d)
	}
	padded := false
	for i := range 2000 {
		s := strings.Repeat(string([]byte{byte(i), byte(i >> 8), 255}), i%40)
		d := codec.Digest(s)
		if d != slowDigest(s) {
			t.Errorf("Digest of %q: %s, not %s", s, d, slowDigest(s))
		}
		padded = padded || d[0] == '0'
	}
	if !padded {
		t.Error("no digest begins with a 0")
	}
}

func TestDigestsDiffer(t *testing.T) {
	text := []byte("the block b7 of the bench 2")
	seen := map[string]bool{codec.Digest(string(text)): true}
	for i, old := range text {
		for b := range 256 {
			if byte(b) == old {
				continue
			}
			text[i] = byte(b)
			d := codec.Digest(string(text))
			if seen[d] {
				t.Errorf("%q has the digest of another string", text)
			}
			seen[d] = true
		}
		text[i] = old
	}
}
