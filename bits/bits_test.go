package bits

import (
	"math"
	"slices"
	"testing"

	"millpond/api"
)

// far: numbers that no set has.
var far = []int{-1, -2, math.MinInt, math.MinInt + 1, math.MaxInt, math.MaxInt - 1, api.MaxPages, api.MaxPages + 1}

// model: for each number of the length, is it in it?
type model []bool

func (m model) set(t *testing.T) Set {
	t.Helper()
	s := New(len(m))
	for i, in := range m {
		if in {
			s = with(t, s, i, 1)
		}
	}
	return s
}

func (m model) laid(from, n int, in bool) model {
	out := slices.Clone(m)
	for i := from; i < from+n; i++ {
		out[i] = in
	}
	return out
}

func (m model) count(from, n int) int {
	total := 0
	for _, in := range m[from : from+n] {
		if in {
			total++
		}
	}
	return total
}

func (m model) first(from int, in bool) (int, bool) {
	for i, is := range m {
		if i >= from && is == in {
			return i, true
		}
	}
	return 0, false
}

func (m model) rows() [][2]int {
	var all [][2]int
	for i, in := range m {
		if in && i > 0 && m[i-1] {
			all[len(all)-1][1]++
		} else if in {
			all = append(all, [2]int{i, 1})
		}
	}
	return all
}

// models: all sets of a length.
func models(length int) []model {
	var all []model
	for x := range 1 << length {
		m := make(model, length)
		for i := range m {
			m[i] = x>>i&1 == 1
		}
		all = append(all, m)
	}
	return all
}

// wide: a model of many rows, of all kinds of lengths.
func wide() model {
	m := make(model, 400)
	for i := range m {
		m[i] = i*i/7%3 != 0
	}
	return m
}

func with(t *testing.T, s Set, from, n int) Set {
	t.Helper()
	out, e := s.With(from, n)
	if e != api.OK {
		t.Fatalf("With(%d, %d) of length %d: error %d", from, n, s.Len(), e)
	}
	return out
}

func without(t *testing.T, s Set, from, n int) Set {
	t.Helper()
	out, e := s.Without(from, n)
	if e != api.OK {
		t.Fatalf("Without(%d, %d) of length %d: error %d", from, n, s.Len(), e)
	}
	return out
}

func rows(s Set) [][2]int {
	var all [][2]int
	for first, many := range s.Rows() {
		all = append(all, [2]int{first, many})
	}
	return all
}

// tells: does the set tell what the model says?
func tells(t *testing.T, s Set, m model) {
	t.Helper()
	if s.Len() != len(m) {
		t.Fatalf("Len: %d, wanted %d", s.Len(), len(m))
	}
	for i := -2; i < len(m)+2; i++ {
		if got, wanted := s.Has(i), i >= 0 && i < len(m) && m[i]; got != wanted {
			t.Fatalf("Has(%d) of %v: %v", i, m, got)
		}
	}
	if got := rows(s); !slices.Equal(got, m.rows()) {
		t.Fatalf("Rows of %v: %v", m, got)
	}
}

func TestNewIsEmpty(t *testing.T) {
	for _, c := range [][2]int{{0, 0}, {1, 1}, {10, 10}, {64, 64}, {api.MaxPages, api.MaxPages}, {api.MaxPages + 1, api.MaxPages}, {math.MaxInt, api.MaxPages}, {-1, 0}, {math.MinInt, 0}} {
		s := New(c[0])
		n, e := s.Count(0, c[1])
		if s.Len() != c[1] || n != 0 || e != api.OK || len(rows(s)) != 0 || s.Has(0) || s.Has(c[1]-1) {
			t.Errorf("New(%d): length %d, %d in it, error %d", c[0], s.Len(), n, e)
		}
	}
}

func TestZeroSetIsNewOfNought(t *testing.T) {
	var zero Set
	tells(t, zero, nil)
	if !Same(zero, New(0)) || !Same(New(0), zero) || Same(zero, New(1)) {
		t.Error("the zero set isn't New(0)")
	}
	tells(t, with(t, zero, 0, 0), nil)
	tells(t, without(t, zero, 0, 0), nil)
	if s, e := zero.With(0, 1); e != api.ErrRange || !Same(s, zero) {
		t.Errorf("With(0, 1): error %d", e)
	}
}

func TestHasOfAnyNumber(t *testing.T) {
	s := with(t, New(api.MaxPages), 0, api.MaxPages)
	for _, i := range far {
		if s.Has(i) {
			t.Errorf("Has(%d) of the full set", i)
		}
	}
	for _, i := range []int{0, 1, 63, 64, api.MaxPages - 1} {
		if !s.Has(i) {
			t.Errorf("not Has(%d) of the full set", i)
		}
	}
}

func TestWithAndWithoutOfAllSets(t *testing.T) {
	for _, m := range models(6) {
		for from := range 7 {
			for n := range 7 - from {
				s := m.set(t)
				tells(t, with(t, s, from, n), m.laid(from, n, true))
				tells(t, without(t, s, from, n), m.laid(from, n, false))
				tells(t, s, m)
			}
		}
	}
}

func TestWithAndWithoutOfManyRows(t *testing.T) {
	m := wide()
	s := m.set(t)
	for from := 0; from <= 400; from += 13 {
		for n := 0; n <= 400-from; n += 29 {
			tells(t, with(t, s, from, n), m.laid(from, n, true))
			tells(t, without(t, s, from, n), m.laid(from, n, false))
		}
	}
	tells(t, s, m)
}

func TestRowsNotWithin(t *testing.T) {
	m := model{false, true, true, false, false, true, false, true, true, true}
	s := m.set(t)
	refused := [][2]int{
		{-1, 1}, {-1, 0}, {-1, 5}, {0, -1}, {5, -1}, {0, 11}, {9, 2}, {10, 1}, {11, 0}, {11, -1}, {-3, -3},
		{math.MaxInt, 1}, {1, math.MaxInt}, {math.MaxInt, math.MaxInt}, {math.MinInt, math.MinInt}, {math.MaxInt, 0},
		{5, math.MaxInt - 4}, {5, math.MinInt}, {math.MinInt, 5}, {0, math.MaxInt}, {math.MinInt, math.MaxInt},
	}
	for _, row := range refused {
		more, e := s.With(row[0], row[1])
		less, f := s.Without(row[0], row[1])
		n, g := s.Count(row[0], row[1])
		if e != api.ErrRange || f != api.ErrRange || g != api.ErrRange || n != 0 {
			t.Errorf("row %v: errors %d, %d, %d, count %d", row, e, f, g, n)
		}
		if !Same(more, s) || !Same(less, s) {
			t.Errorf("row %v: not the same set", row)
		}
	}
	tells(t, s, m)
}

func TestCount(t *testing.T) {
	for _, m := range append(models(6), wide()) {
		s := m.set(t)
		step := 1 + len(m)/40
		for from := 0; from <= len(m); from += step {
			for n := 0; n <= len(m)-from; n += step {
				if got, e := s.Count(from, n); e != api.OK || got != m.count(from, n) {
					t.Fatalf("Count(%d, %d) of %v: %d, error %d", from, n, m, got, e)
				}
			}
		}
	}
}

func TestSame(t *testing.T) {
	all := models(5)
	for i, a := range all {
		for k, b := range all {
			if got := Same(a.set(t), b.set(t)); got != (i == k) {
				t.Errorf("Same of %v and %v: %v", a, b, got)
			}
		}
	}
	if Same(New(5), New(6)) || Same(with(t, New(5), 1, 2), with(t, New(6), 1, 2)) {
		t.Error("Same of two lengths")
	}
}

func TestSameWhateverTheWay(t *testing.T) {
	a := with(t, New(64), 10, 20)
	b := without(t, with(t, New(64), 0, 64), 0, 10)
	b = without(t, b, 30, 34)
	c := New(64)
	for i := 29; i >= 10; i-- {
		c = with(t, c, i, 1)
	}
	if !Same(a, b) || !Same(b, c) || !Same(c, a) {
		t.Error("three ways to one set aren't the same")
	}
	if !Same(without(t, a, 10, 20), New(64)) {
		t.Error("what was emptied isn't New")
	}
}

func TestFirst(t *testing.T) {
	for _, m := range append(models(6), wide(), nil) {
		s := m.set(t)
		for from := -2; from < len(m)+2; from++ {
			for _, in := range []bool{true, false} {
				got, ok := s.First(from, in)
				if wanted, is := m.first(from, in); got != wanted || ok != is {
					t.Fatalf("First(%d, %v) of %v: %d, %v", from, in, m, got, ok)
				}
			}
		}
	}
}

func TestFirstFromAfar(t *testing.T) {
	s := with(t, New(api.MaxPages), api.MaxPages-1, 1)
	for _, from := range []int{math.MinInt, -1, 0, api.MaxPages - 1} {
		if i, ok := s.First(from, true); !ok || i != api.MaxPages-1 {
			t.Errorf("First(%d, true): %d, %v", from, i, ok)
		}
	}
	if i, ok := s.First(math.MinInt, false); !ok || i != 0 {
		t.Errorf("First(least, false): %d, %v", i, ok)
	}
	for _, from := range []int{api.MaxPages, math.MaxInt} {
		for _, in := range []bool{true, false} {
			if i, ok := s.First(from, in); ok || i != 0 {
				t.Errorf("First(%d, %v): %d, %v", from, in, i, ok)
			}
		}
	}
	if i, ok := s.First(api.MaxPages-1, false); ok || i != 0 {
		t.Errorf("none isn't in it behind the last row: %d, %v", i, ok)
	}
}

func TestRowsMayBeLeftAndGoneThroughAgain(t *testing.T) {
	s := model{true, false, true, true, false, true}.set(t)
	all := s.Rows()
	for first, many := range all {
		if first != 0 || many != 1 {
			t.Errorf("the first row: %d, %d", first, many)
		}
		break
	}
	for range 2 {
		var got [][2]int
		for first, many := range all {
			got = append(got, [2]int{first, many})
		}
		if !slices.Equal(got, [][2]int{{0, 1}, {2, 2}, {5, 1}}) {
			t.Errorf("all rows: %v", got)
		}
	}
}

func TestExampleOfTheDocument(t *testing.T) {
	s := without(t, with(t, New(10), 2, 3), 3, 1)
	if got := rows(s); !slices.Equal(got, [][2]int{{2, 1}, {4, 1}}) {
		t.Errorf("rows: %v", got)
	}
	if i, ok := s.First(3, false); !ok || i != 3 {
		t.Errorf("First(3, false): %d, %v", i, ok)
	}
}

func TestSetStaysAsItWas(t *testing.T) {
	m := model{true, true, false, false, true, false, true, false}
	s := m.set(t)
	more := with(t, s, 2, 1)
	other := with(t, s, 7, 1)
	less := without(t, more, 0, 8)
	tells(t, s, m)
	tells(t, more, m.laid(2, 1, true))
	tells(t, other, m.laid(7, 1, true))
	tells(t, less, make(model, 8))
}

func TestInPartsAsAtOnce(t *testing.T) {
	for _, m := range append(models(5), wide()) {
		s := m.set(t)
		length := len(m)
		for cut := 0; cut <= length; cut += 1 + length/40 {
			from, to := cut/2, length-cut/3
			cut := min(max(cut, from), to)
			in := with(t, with(t, s, cut, to-cut), from, cut-from)
			out := without(t, without(t, s, from, cut-from), cut, to-cut)
			if !Same(in, with(t, s, from, to-from)) || !Same(out, without(t, s, from, to-from)) {
				t.Fatalf("%d to %d of %v, cut at %d: not the same", from, to, m, cut)
			}
		}
	}
}

func TestInPartsThatOverlap(t *testing.T) {
	s := wide().set(t)
	parts := with(t, with(t, with(t, s, 100, 50), 120, 80), 90, 20)
	if !Same(parts, with(t, s, 90, 110)) {
		t.Error("parts that overlap aren't put in as at once")
	}
	if !Same(without(t, without(t, parts, 90, 60), 100, 100), without(t, s, 90, 110)) {
		t.Error("parts that overlap aren't taken out as at once")
	}
}

func TestFullLength(t *testing.T) {
	s := with(t, New(api.MaxPages), 0, api.MaxPages)
	s = without(t, s, 1000, 24)
	n, e := s.Count(0, api.MaxPages)
	if e != api.OK || n != api.MaxPages-24 {
		t.Errorf("Count: %d, error %d", n, e)
	}
	if got := rows(s); !slices.Equal(got, [][2]int{{0, 1000}, {1024, api.MaxPages - 1024}}) {
		t.Errorf("rows: %v", got)
	}
}
