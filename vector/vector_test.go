package vector_test

import (
	"math"
	"math/big"
	"math/rand"
	"testing"

	"gangsaw/api"
	"gangsaw/vector"
)

const top = api.MaxCoord

func vec(x, y, z int) api.Vec {
	return api.Vec{X: x, Y: y, Z: z}
}

// outside are vectors with one coordinate that is not in range, and some with more.
var outside = []api.Vec{
	vec(top+1, 0, 0), vec(0, top+1, 0), vec(0, 0, top+1), vec(-top-1, 0, 0), vec(0, -top-1, 0), vec(0, 0, -top-1),
	vec(math.MaxInt, 1, 1), vec(1, math.MaxInt, 1), vec(1, 1, math.MaxInt), vec(math.MinInt, 1, 1), vec(1, math.MinInt, 1), vec(1, 1, math.MinInt),
	vec(math.MinInt, math.MinInt, math.MinInt), vec(math.MaxInt, math.MinInt, math.MaxInt), vec(math.MinInt, math.MinInt+1, 0),
}

// inside are vectors in range: all with the given coordinates.
func inside(numbers ...int) []api.Vec {
	var list []api.Vec
	for _, x := range numbers {
		for _, y := range numbers {
			for _, z := range numbers {
				list = append(list, vec(x, y, z))
			}
		}
	}
	return list
}

func someVectors() []api.Vec {
	random := rand.New(rand.NewSource(3))
	list := inside(-top, 0, top)
	for _, bound := range []int{3, 100, top} {
		for range 40 {
			any := func() int { return random.Intn(2*bound+1) - bound }
			list = append(list, vec(any(), any(), any()))
		}
	}
	return list
}

func TestSignatures(t *testing.T) {
	type two = func(a, b api.Vec) (api.Vec, api.Errno)
	type number = func(a, b api.Vec) (int64, api.Errno)
	var _ func(api.Vec) api.Errno = vector.Check
	var _, _ two = vector.Add, vector.Sub
	var _, _ number = vector.Dot, vector.Distance
	var _ func(a, b api.Vec) ([3]int64, api.Errno) = vector.Cross
	var _ func(a, b api.Vec) int = vector.Compare
	var _ func(api.Vec) (api.Vec, int, api.Errno) = vector.Primitive
	var _ func(a, b, c api.Point) (int, api.Errno) = vector.Turn
	var _ func(a, b, p api.Point) (bool, api.Errno) = vector.On
	var _ func(a, b, c, d api.Point) (int, api.Errno) = vector.Meet
}

func TestCheck(t *testing.T) {
	for _, v := range inside(-top, -top+1, -1, 0, 1, top-1, top) {
		if e := vector.Check(v); e != api.OK {
			t.Errorf("Check of %v: %d", v, e)
		}
	}
	for _, v := range outside {
		if e := vector.Check(v); e != api.ErrRange {
			t.Errorf("Check of %v: %d", v, e)
		}
	}
}

func TestArgumentsOutOfRange(t *testing.T) {
	functions := map[string]func(a, b api.Vec) (bool, api.Errno){
		"Add": func(a, b api.Vec) (bool, api.Errno) { v, e := vector.Add(a, b); return v == api.Vec{}, e },
		"Sub": func(a, b api.Vec) (bool, api.Errno) { v, e := vector.Sub(a, b); return v == api.Vec{}, e },
		"Dot": func(a, b api.Vec) (bool, api.Errno) { n, e := vector.Dot(a, b); return n == 0, e },
		"Cross": func(a, b api.Vec) (bool, api.Errno) {
			c, e := vector.Cross(a, b)
			return c == [3]int64{}, e
		},
		"Distance": func(a, b api.Vec) (bool, api.Errno) { n, e := vector.Distance(a, b); return n == 0, e },
		"Primitive": func(a, b api.Vec) (bool, api.Errno) {
			if vector.Check(a) == api.OK {
				a = b
			}
			v, n, e := vector.Primitive(a)
			return v == api.Vec{} && n == 0, e
		},
	}
	for name, f := range functions {
		for _, v := range outside {
			for _, w := range append([]api.Vec{vec(1, 2, 3), {}, v}, outside[:3]...) {
				if zero, e := f(v, w); !zero || e != api.ErrRange {
					t.Errorf("%s of %v and %v: %d", name, v, w, e)
				}
				if zero, e := f(w, v); !zero || e != api.ErrRange {
					t.Errorf("%s of %v and %v: %d", name, w, v, e)
				}
			}
		}
	}
}

func TestAddAndSub(t *testing.T) {
	for _, c := range []struct {
		a, b, sum, difference api.Vec
	}{
		{vec(1, 2, 3), vec(10, 20, 40), vec(11, 22, 43), vec(-9, -18, -37)},
		{vec(-5, 0, 7), vec(5, 0, 7), vec(0, 0, 14), vec(-10, 0, 0)},
		{vec(top-1, 1-top, 0), vec(1, -1, 0), vec(top, -top, 0), vec(top-2, 2-top, 0)},
		{vec(top, -top, top), vec(0, 0, 0), vec(top, -top, top), vec(top, -top, top)},
	} {
		if got, e := vector.Add(c.a, c.b); got != c.sum || e != api.OK {
			t.Errorf("Add of %v and %v: %v, %d", c.a, c.b, got, e)
		}
		if got, e := vector.Sub(c.a, c.b); got != c.difference || e != api.OK {
			t.Errorf("Sub of %v and %v: %v, %d", c.a, c.b, got, e)
		}
	}
	for _, unit := range []api.Vec{vec(1, 0, 0), vec(0, 1, 0), vec(0, 0, 1)} {
		high, low := vec(top, top, top), vec(-top, -top, -top)
		if got, e := vector.Add(high, unit); got != (api.Vec{}) || e != api.ErrRange {
			t.Errorf("Add of %v at the upper end: %v, %d", unit, got, e)
		}
		if got, e := vector.Sub(low, unit); got != (api.Vec{}) || e != api.ErrRange {
			t.Errorf("Sub of %v at the lower end: %v, %d", unit, got, e)
		}
		if got, e := vector.Sub(high, unit); got != vec(top-unit.X, top-unit.Y, top-unit.Z) || e != api.OK {
			t.Errorf("Sub of %v at the upper end: %v, %d", unit, got, e)
		}
		if got, e := vector.Add(low, unit); got != vec(unit.X-top, unit.Y-top, unit.Z-top) || e != api.OK {
			t.Errorf("Add of %v at the lower end: %v, %d", unit, got, e)
		}
	}
}

func TestAddAndSubAreInverse(t *testing.T) {
	list := someVectors()
	for _, a := range list {
		for _, b := range list {
			want := vec(a.X+b.X, a.Y+b.Y, a.Z+b.Z)
			sum, e := vector.Add(a, b)
			if vector.Check(want) != api.OK {
				if sum != (api.Vec{}) || e != api.ErrRange {
					t.Errorf("Add of %v and %v: %v, %d", a, b, sum, e)
				}
				continue
			}
			if sum != want || e != api.OK {
				t.Errorf("Add of %v and %v: %v, %d", a, b, sum, e)
			}
			if back, e := vector.Sub(sum, b); back != a || e != api.OK {
				t.Errorf("Sub of %v and %v: %v, %d", sum, b, back, e)
			}
		}
	}
}

// before reports the order of vectors as the document says it.
func before(a, b api.Vec) bool {
	return a.X < b.X || a.X == b.X && (a.Y < b.Y || a.Y == b.Y && a.Z < b.Z)
}

func TestCompare(t *testing.T) {
	list := append(inside(-top, -1, 0, 1, top, math.MinInt, math.MaxInt), outside...)
	for _, a := range list {
		for _, b := range list {
			want := 0
			if before(a, b) {
				want = -1
			} else if before(b, a) {
				want = 1
			}
			if got := vector.Compare(a, b); got != want {
				t.Errorf("Compare of %v and %v: %d", a, b, got)
			}
		}
	}
}

func TestProductsOfExamples(t *testing.T) {
	if n, e := vector.Dot(vec(1, 2, 3), vec(4, 5, 6)); n != 32 || e != api.OK {
		t.Errorf("Dot: %d, %d", n, e)
	}
	if c, e := vector.Cross(vec(1, 2, 3), vec(4, 5, 6)); c != [3]int64{-3, 6, -3} || e != api.OK {
		t.Errorf("Cross: %v, %d", c, e)
	}
	if n, e := vector.Distance(vec(0, 0, 0), vec(1, 2, 2)); n != 9 || e != api.OK {
		t.Errorf("Distance: %d, %d", n, e)
	}
	if n, e := vector.Dot(vec(top, -top, top), vec(top, -top, top)); n != 3*top*top || e != api.OK {
		t.Errorf("Dot at the ends: %d, %d", n, e)
	}
	if c, e := vector.Cross(vec(top, top, -top), vec(-top, top, top)); c != [3]int64{2 * top * top, 0, 2 * top * top} || e != api.OK {
		t.Errorf("Cross at the ends: %v, %d", c, e)
	}
	if n, e := vector.Distance(vec(-top, top, -top), vec(top, -top, top)); n != 12*top*top || e != api.OK {
		t.Errorf("Distance of the ends: %d, %d", n, e)
	}
}

// minor returns a*d - b*c of great numbers.
func minor(a, b, c, d int) *big.Int {
	left := new(big.Int).Mul(big.NewInt(int64(a)), big.NewInt(int64(d)))
	return left.Sub(left, new(big.Int).Mul(big.NewInt(int64(b)), big.NewInt(int64(c))))
}

func isNumber(n int64, want *big.Int) bool {
	return big.NewInt(n).Cmp(want) == 0
}

func TestProductsAgainstGreatNumbers(t *testing.T) {
	list := someVectors()
	for _, a := range list {
		for _, b := range list {
			x, y, z := minor(a.X, 0, 0, b.X), minor(a.Y, 0, 0, b.Y), minor(a.Z, 0, 0, b.Z)
			if n, e := vector.Dot(a, b); !isNumber(n, x.Add(x, y.Add(y, z))) || e != api.OK {
				t.Errorf("Dot of %v and %v: %d, %d", a, b, n, e)
			}
			c, e := vector.Cross(a, b)
			if !isNumber(c[0], minor(a.Y, a.Z, b.Y, b.Z)) || !isNumber(c[1], minor(a.Z, a.X, b.Z, b.X)) || !isNumber(c[2], minor(a.X, a.Y, b.X, b.Y)) || e != api.OK {
				t.Errorf("Cross of %v and %v: %v, %d", a, b, c, e)
			}
			x, y, z = minor(a.X-b.X, 0, 0, a.X-b.X), minor(a.Y-b.Y, 0, 0, a.Y-b.Y), minor(a.Z-b.Z, 0, 0, a.Z-b.Z)
			if n, e := vector.Distance(a, b); !isNumber(n, x.Add(x, y.Add(y, z))) || e != api.OK {
				t.Errorf("Distance of %v and %v: %d, %d", a, b, n, e)
			}
		}
	}
}

func TestCrossIsOrthogonal(t *testing.T) {
	list := inside(-5, -2, 0, 3)
	for _, a := range list {
		for _, b := range list {
			c, _ := vector.Cross(a, b)
			product := vec(int(c[0]), int(c[1]), int(c[2]))
			if n, e := vector.Dot(product, a); n != 0 || e != api.OK {
				t.Errorf("Cross of %v and %v: %v", a, b, c)
			}
			if n, e := vector.Dot(product, b); n != 0 || e != api.OK {
				t.Errorf("Cross of %v and %v: %v", a, b, c)
			}
			if back, _ := vector.Cross(b, a); back != [3]int64{-c[0], -c[1], -c[2]} {
				t.Errorf("Cross of %v and %v: %v, the other way %v", a, b, c, back)
			}
		}
	}
}

func TestPrimitive(t *testing.T) {
	for _, c := range []struct {
		v, want api.Vec
		factor  int
	}{
		{vec(6, -9, 0), vec(2, -3, 0), 3}, {vec(1, 0, 0), vec(1, 0, 0), 1}, {vec(0, -7, 0), vec(0, -1, 0), 7}, {vec(0, 0, top), vec(0, 0, 1), top},
		{vec(-top, -top, -top), vec(-1, -1, -1), top}, {vec(top, -top, 0), vec(1, -1, 0), top}, {vec(top, top-1, 0), vec(top, top-1, 0), 1},
		{vec(-top, 500000, 250000), vec(-4, 2, 1), 250000}, {vec(6, 10, 15), vec(6, 10, 15), 1}, {vec(-4, 6, -8), vec(-2, 3, -4), 2},
	} {
		if got, n, e := vector.Primitive(c.v); got != c.want || n != c.factor || e != api.OK {
			t.Errorf("Primitive of %v: %v, %d, %d", c.v, got, n, e)
		}
	}
	if got, n, e := vector.Primitive(api.Vec{}); got != (api.Vec{}) || n != 0 || e != api.ErrInvalid {
		t.Errorf("Primitive of the zero vector: %v, %d, %d", got, n, e)
	}
}

func TestPrimitiveAgainstAllDivisors(t *testing.T) {
	for _, v := range inside(-12, -9, -4, -1, 0, 1, 6, 10, 12) {
		if v == (api.Vec{}) {
			continue
		}
		factor := 0
		for n := 1; n <= 12; n++ {
			if v.X%n == 0 && v.Y%n == 0 && v.Z%n == 0 {
				factor = n
			}
		}
		want := vec(v.X/factor, v.Y/factor, v.Z/factor)
		if got, n, e := vector.Primitive(v); got != want || n != factor || e != api.OK {
			t.Errorf("Primitive of %v: %v, %d, %d", v, got, n, e)
		}
		if got, n, e := vector.Primitive(want); got != want || n != 1 || e != api.OK {
			t.Errorf("Primitive of %v, which is primitive: %v, %d, %d", want, got, n, e)
		}
	}
}
