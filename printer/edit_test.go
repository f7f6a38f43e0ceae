package printer_test

import (
	"math"
	"math/rand"
	"slices"
	"strconv"
	"strings"
	"testing"

	"gangsaw/api"
	"gangsaw/printer"
)

// edits reads edits like "-a =b +c".
func edits(s string) []printer.Edit {
	kinds := map[byte]int{'=': printer.Keep, '-': printer.Delete, '+': printer.Insert}
	var list []printer.Edit
	for _, part := range strings.Fields(s) {
		list = append(list, printer.Edit{Kind: kinds[part[0]], Text: part[1:]})
	}
	return list
}

// rows has a row for each letter.
func rows(letters string) []string {
	if letters == "" {
		return nil
	}
	return strings.Split(letters, "")
}

// numbered has so many rows that differ.
func numbered(n int, mark string) []string {
	var list []string
	for i := range n {
		list = append(list, mark+strconv.Itoa(i))
	}
	return list
}

// cost counts the edits that are not Keep.
func cost(list []printer.Edit) int {
	n := 0
	for _, edit := range list {
		if edit.Kind != printer.Keep {
			n++
		}
	}
	return n
}

// wantDiff tests that edits are those between rows, and lead there and back.
func wantDiff(t *testing.T, old, now []string, want []printer.Edit) {
	t.Helper()
	list, e := printer.Diff(old, now)
	if e != api.OK || !slices.Equal(list, want) {
		t.Errorf("Diff of %q and %q: %v, %d, not %v", old, now, list, e, want)
	}
	wantThereAndBack(t, old, now, list)
}

func wantThereAndBack(t *testing.T, old, now []string, list []printer.Edit) {
	t.Helper()
	if there, e := printer.Apply(old, list); e != api.OK || !slices.Equal(there, now) {
		t.Errorf("Apply of %v to %q: %q, %d", list, old, there, e)
	}
	if back, e := printer.Apply(now, printer.Invert(list)); e != api.OK || !slices.Equal(back, old) {
		t.Errorf("Apply of the inverted %v to %q: %q, %d", list, now, back, e)
	}
}

func TestDiff(t *testing.T) {
	for _, c := range []struct{ old, now, want string }{
		{"abc", "bcd", "-a =b =c +d"}, {"ab", "ba", "-a =b +a"}, {"", "", ""}, {"a", "", "-a"}, {"", "a", "+a"}, {"ab", "", "-a -b"}, {"", "ab", "+a +b"}, {"a", "a", "=a"}, {"a", "b", "-a +b"}, {"ab", "cd", "-a -b +c +d"}, {"abc", "abc", "=a =b =c"},
		{"ab", "ab", "=a =b"}, {"aa", "a", "=a -a"}, {"a", "aa", "=a +a"}, {"aab", "ab", "=a -a =b"}, {"ab", "aab", "=a +a =b"}, {"ba", "ab", "-b =a +b"}, {"abc", "ac", "=a -b =c"}, {"ac", "abc", "=a +b =c"}, {"bac", "cab", "-b -a =c +a +b"}, {"xab", "aby", "-x =a =b +y"}, {"abx", "yab", "+y =a =b -x"}, {"abcabba", "cbabac", "-a -b =c -a =b +a =b =a +c"},
	} {
		wantDiff(t, rows(c.old), rows(c.now), edits(c.want))
	}
	wantDiff(t, []string{"", "a\nb", "\xff"}, []string{"\xff", ""}, []printer.Edit{{Kind: printer.Delete, Text: ""}, {Kind: printer.Delete, Text: "a\nb"}, {Kind: printer.Keep, Text: "\xff"}, {Kind: printer.Insert, Text: ""}})
	wantDiff(t, []string{}, nil, nil)
}

func TestDiffOfLongRows(t *testing.T) {
	many, other := numbered(500, "a"), numbered(500, "b")
	var kept, deleted, inserted []printer.Edit
	for i := range many {
		kept = append(kept, printer.Edit{Kind: printer.Keep, Text: many[i]})
		deleted = append(deleted, printer.Edit{Kind: printer.Delete, Text: many[i]})
		inserted = append(inserted, printer.Edit{Kind: printer.Insert, Text: other[i]})
	}
	wantDiff(t, many, many, kept)
	wantDiff(t, many, nil, deleted)
	wantDiff(t, nil, other, inserted)
	wantDiff(t, many, other, slices.Concat(deleted, inserted))
	wantDiff(t, many, many[1:], slices.Concat(deleted[:1], kept[1:]))
	wantDiff(t, slices.Repeat([]string{"x"}, 500), slices.Repeat([]string{"x"}, 499), slices.Concat(slices.Repeat(edits("=x"), 499), edits("-x")))
	long := numbered(501, "a")
	for _, c := range [][2][]string{{long, nil}, {nil, long}, {long, long}, {long, many}, {many, long}, {numbered(100000, "a"), {"a"}}, {make([]string, 501), make([]string, 501)}} {
		if list, e := printer.Diff(c[0], c[1]); e != api.ErrTooMany || len(list) != 0 {
			t.Errorf("Diff of %d and %d rows: %v, %d", len(c[0]), len(c[1]), list, e)
		}
	}
}

// allEdits visits all lists of edits from rows to other rows; Keep is tried before Delete, and Delete before Insert.
func allEdits(old, now []string, front []printer.Edit, visit func([]printer.Edit)) {
	if len(old) == 0 && len(now) == 0 {
		visit(front)
		return
	}
	if len(old) > 0 && len(now) > 0 && old[0] == now[0] {
		allEdits(old[1:], now[1:], append(front, printer.Edit{Kind: printer.Keep, Text: old[0]}), visit)
	}
	if len(old) > 0 {
		allEdits(old[1:], now, append(front, printer.Edit{Kind: printer.Delete, Text: old[0]}), visit)
	}
	if len(now) > 0 {
		allEdits(old, now[1:], append(front, printer.Edit{Kind: printer.Insert, Text: now[0]}), visit)
	}
}

// slowDiff takes the first one of the shortest lists: where rows are equal, some of them begin with Keep.
func slowDiff(old, now []string) []printer.Edit {
	var best []printer.Edit
	least := math.MaxInt
	allEdits(old, now, nil, func(list []printer.Edit) {
		if n := cost(list); n < least {
			best, least = slices.Clone(list), n
		}
	})
	return best
}

// allRows has all rows of at most so many of some letters.
func allRows(letters string, most int) [][]string {
	list := [][]string{nil}
	for i := 0; i < len(list); i++ {
		if len(list[i]) == most {
			break
		}
		for _, letter := range rows(letters) {
			list = append(list, append(slices.Clone(list[i]), letter))
		}
	}
	return list
}

func TestDiffOfAllShortRows(t *testing.T) {
	for _, list := range [][][]string{allRows("ab", 5), allRows("abc", 3)} {
		for _, old := range list {
			for _, now := range list {
				wantDiff(t, old, now, slowDiff(old, now))
			}
		}
	}
}

// common is the greatest number of rows that can be kept, counted from the front.
func common(old, now []string) int {
	best := make([]int, len(now)+1)
	for _, a := range old {
		diagonal := 0
		for k, b := range now {
			above := best[k+1]
			if a == b {
				best[k+1] = diagonal + 1
			} else {
				best[k+1] = max(above, best[k])
			}
			diagonal = above
		}
	}
	return best[len(now)]
}

func TestDiffOfRandomRows(t *testing.T) {
	random := rand.New(rand.NewSource(113))
	some := func(most, letters int) []string {
		var list []string
		for range random.Intn(most + 1) {
			list = append(list, string(rune('a'+random.Intn(letters))))
		}
		return list
	}
	for i := range 400 {
		most, letters := 1+random.Intn(40), 1+random.Intn(8)
		if i%20 == 0 {
			most, letters = 500, 26
		}
		old, now := some(most, letters), some(most, letters)
		list, e := printer.Diff(old, now)
		if want := len(old) + len(now) - 2*common(old, now); e != api.OK || cost(list) != want {
			t.Errorf("Diff of %q and %q: %v, %d, not %d edits", old, now, list, e, want)
		}
		wantThereAndBack(t, old, now, list)
		// Behind each beginning come the shortest edits of what is left over.
		for k, edit := range list {
			if edit.Kind != printer.Insert {
				old = old[1:]
			}
			if edit.Kind != printer.Delete {
				now = now[1:]
			}
			if k%50 == 0 {
				if rest, e := printer.Diff(old, now); e != api.OK || !slices.Equal(rest, list[k+1:]) {
					t.Errorf("Diff of %q and %q: %v, %d, not %v", old, now, rest, e, list[k+1:])
				}
			}
		}
	}
}

func TestApply(t *testing.T) {
	for _, c := range []struct{ old, edits, want string }{
		{"", "", ""}, {"a", "=a", "a"}, {"a", "-a", ""}, {"", "+a", "a"}, {"abc", "-a =b =c +d", "bcd"}, {"ab", "+x =a +y +z =b +x", "xayzbx"}, {"a", "+a -a", "a"}, {"a", "-a +a", "a"}, {"aa", "=a -a +b", "ab"}, {"", "+b +b +a", "bba"},
	} {
		if now, e := printer.Apply(rows(c.old), edits(c.edits)); e != api.OK || !slices.Equal(now, rows(c.want)) {
			t.Errorf("Apply of %q to %q: %q, %d, not %q", c.edits, c.old, now, e, c.want)
		}
	}
	for _, c := range []struct{ old, edits string }{
		// Another row, none, or one that is left over.
		{"a", "=b"}, {"a", "-b"}, {"ab", "=b =a"}, {"ab", "-b"}, {"ab", "=a =a"}, {"ab", "+b =b"}, {"a", "=A"}, {"a", "="}, {"", "=a"}, {"", "-a"}, {"a", "=a =a"}, {"a", "=a -a"}, {"a", "-a -a"}, {"", "+a =a"}, {"", "+a -a"}, {"a", ""}, {"a", "+a"}, {"ab", "=a"}, {"ab", "-a +b"}, {"abc", "=a =b"}, {"a", "=a +b =b"},
	} {
		if now, e := printer.Apply(rows(c.old), edits(c.edits)); e != api.ErrConflict || len(now) != 0 {
			t.Errorf("Apply of %q to %q: %q, %d", c.edits, c.old, now, e)
		}
	}
}

func TestApplyOfUnknownKinds(t *testing.T) {
	for _, kind := range []int{3, -1, 4, math.MaxInt, math.MinInt} {
		unknown := []printer.Edit{{Kind: kind, Text: "a"}}
		for _, list := range [][]printer.Edit{
			unknown, slices.Concat(unknown, edits("=b")), slices.Concat(edits("=b"), unknown), slices.Concat(edits("=a"), unknown), slices.Concat(edits("-a -a -a"), unknown), slices.Concat(edits("=a +b"), unknown, edits("=x")), slices.Concat(edits("=x"), unknown, edits("=x")), slices.Concat(unknown, unknown),
		} {
			for _, old := range [][]string{{"a"}, nil, {"a", "b"}} {
				if now, e := printer.Apply(old, list); e != api.ErrInvalid || len(now) != 0 {
					t.Errorf("Apply of %v to %q: %q, %d", list, old, now, e)
				}
			}
		}
	}
}

// slowApply compares the rows that edits take with all old ones.
func slowApply(old []string, list []printer.Edit) ([]string, api.Errno) {
	var taken, now []string
	for _, edit := range list {
		if edit.Kind == printer.Keep || edit.Kind == printer.Delete {
			taken = append(taken, edit.Text)
		}
		if edit.Kind == printer.Keep || edit.Kind == printer.Insert {
			now = append(now, edit.Text)
		}
	}
	if !slices.Equal(taken, old) {
		return nil, api.ErrConflict
	}
	return now, api.OK
}

func TestApplyOfAllShortLists(t *testing.T) {
	for _, letters := range allRows("012345", 4) {
		var list []printer.Edit
		for _, letter := range letters {
			n := int(letter[0] - '0')
			list = append(list, printer.Edit{Kind: n % 3, Text: string(rune('a' + n/3))})
		}
		for _, old := range allRows("ab", 3) {
			want, code := slowApply(old, list)
			if now, e := printer.Apply(old, list); e != code || !slices.Equal(now, want) {
				t.Errorf("Apply of %v to %q: %q, %d, not %q, %d", list, old, now, e, want, code)
			}
		}
	}
}

func TestInvert(t *testing.T) {
	for _, c := range []struct{ edits, want string }{{"", ""}, {"=a", "=a"}, {"-a", "+a"}, {"+a", "-a"}, {"-a =b +c +d", "+a =b -c -d"}, {"+ - =", "- + ="}} {
		list := edits(c.edits)
		if inverted := printer.Invert(list); !slices.Equal(inverted, edits(c.want)) || !slices.Equal(list, edits(c.edits)) {
			t.Errorf("Invert of %q: %v, and the argument is %v", c.edits, inverted, list)
		}
		if twice := printer.Invert(printer.Invert(list)); !slices.Equal(twice, list) {
			t.Errorf("Invert of %q, twice: %v", c.edits, twice)
		}
	}
	odd := []printer.Edit{{Kind: 3, Text: "a"}, {Kind: printer.Delete}, {Kind: -1}, {Kind: math.MinInt, Text: "b"}}
	if inverted := printer.Invert(odd); !slices.Equal(inverted, []printer.Edit{odd[0], {Kind: printer.Insert}, odd[2], odd[3]}) {
		t.Errorf("Invert of unknown kinds: %v", inverted)
	}
	if len(printer.Invert(nil)) != 0 {
		t.Error("Invert of nothing")
	}
}

func TestMemoryOfRows(t *testing.T) {
	old, now := rows("abcab"), rows("bcdb")
	list, _ := printer.Diff(old, now)
	before := slices.Clone(list)
	there, _ := printer.Apply(old, list)
	inverted := printer.Invert(list)
	slices.Reverse(there)
	for i := range inverted {
		inverted[i] = printer.Edit{Kind: 7, Text: "spoilt"}
	}
	if !slices.Equal(old, rows("abcab")) || !slices.Equal(now, rows("bcdb")) || !slices.Equal(list, before) {
		t.Errorf("changed: %q, %q, %v", old, now, list)
	}
	kept, _ := printer.Apply(old, edits("=a =b =c =a =b"))
	kept[0], _ = "spoilt", append(kept[:1], "more")
	if !slices.Equal(old, rows("abcab")) {
		t.Errorf("Apply shares memory: %q", old)
	}
	left := old[:2]
	if got, e := printer.Apply(left, edits("-a =b +x")); e != api.OK || !slices.Equal(got, rows("bx")) || old[2] != "c" {
		t.Errorf("Apply: %q, %d, and behind the argument stands %q", got, e, old[2])
	}
}
