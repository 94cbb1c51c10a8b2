package object

import (
	"math"
	"strings"
	"testing"

	"millpond/api"
	"millpond/arena"
	"millpond/chunk"
)

// some: objects of all kinds; in the arena of these tests their headers are there, and lie apart.
var some = []Object{
	{16, 0, 0}, {32, 1, 16}, {100, 5, 50}, {4096, 10, 0}, {4112, 7, math.MaxInt},
	{4130, math.MaxInt, 4112}, {8191, 1 << 32, 1}, {8208, math.MaxInt, math.MaxInt}, {12304, 255, 256}, {16384, 256, 255},
}

// noAligns: numbers that are no alignment.
var noAligns = []int{math.MinInt, math.MinInt + 1, -64, -16, -8, -2, -1, 0, 3, 5, 6, 7, 9, 12, 24, 48, 63, 65, 96, 127, 128, 256, 4096, 8192, 1 << 32, 1 << 62, math.MaxInt}

// is: a test ends, if an error is another one than was wanted.
func is(t *testing.T, what string, got, wanted api.Errno) {
	t.Helper()
	if got != wanted {
		t.Fatalf("%s: error %d, wanted %d", what, got, wanted)
	}
}

// four: an arena of the cap 5, whose first four pages are committed, and full of one byte.
func four(t *testing.T, b byte) *arena.Arena {
	t.Helper()
	a := arena.New(5)
	is(t, "Commit", a.Commit(0, 4), api.OK)
	is(t, "Fill", a.Fill(0, 4*api.Page, b), api.OK)
	return a
}

// bytes: what stands in the first four pages.
func bytes(t *testing.T, a *arena.Arena) string {
	t.Helper()
	s, e := a.Bytes(0, 4*api.Page)
	is(t, "Bytes", e, api.OK)
	return s
}

// stands: is an object's header there?
func stands(t *testing.T, what string, a *arena.Arena, o Object) {
	t.Helper()
	if got, e := Read(a, o.At); got != o || e != api.OK {
		t.Fatalf("%s: %v, error %d, wanted %v", what, got, e, o)
	}
}

// none: is there an error, and no object beside it?
func none(t *testing.T, what string, a *arena.Arena, at int, wanted api.Errno) {
	t.Helper()
	if got, e := Read(a, at); got != (Object{}) || e != wanted {
		t.Fatalf("%s: at %d %v, error %d, wanted error %d", what, at, got, e, wanted)
	}
}

func TestExamples(t *testing.T) {
	if at, ok := Fit(chunk.Chunk{At: 4096}, 4128, 10, 8); at != 4144 || !ok {
		t.Errorf("Fit: %d, %t", at, ok)
	}
	needs(t, 32, 4048, 16, 0, true)
	needs(t, 32, 4049, 16, 1, true)
}

func TestWriteAndRead(t *testing.T) {
	for _, b := range []byte{0, '.', 255} {
		a := four(t, b)
		for _, o := range some {
			is(t, "Write", Write(a, o), api.OK)
			stands(t, "what was written", a, o)
		}
		for _, o := range some {
			stands(t, "beside others", a, o)
			stands(t, "of a clone", a.Clone(), o)
		}
	}
}

// Each bit of a size, and of the address of the one ahead: one header over the other, so that nothing is left of the one ahead.
func TestWhatWasWrittenIsRead(t *testing.T) {
	a := four(t, 255)
	for _, at := range []int{16, 17, 4096, 4097, 4111, 4112, 16384} {
		for bit := range 64 {
			for _, o := range []Object{{at, math.MaxInt >> bit, 0}, {at, 0, math.MaxInt >> bit}, {at, 1 << min(bit, 62), math.MaxInt >> bit}} {
				is(t, "Write", Write(a, o), api.OK)
				stands(t, "what was written", a, o)
			}
		}
	}
}

func TestNoughtsAreWithoutSize(t *testing.T) {
	a := four(t, 0)
	for at := 16; at <= 4*api.Page; at += 7 {
		stands(t, "noughts", a, Object{At: at})
	}
	stands(t, "noughts", a, Object{At: 4 * api.Page})
}

func TestWriteStaysInItsPlace(t *testing.T) {
	for _, o := range some {
		a := four(t, '.')
		before := bytes(t, a)
		is(t, "Write", Write(a, o), api.OK)
		after := bytes(t, a)
		low := o.At - api.Small
		if after[:low] != before[:low] || after[o.At:] != before[o.At:] {
			t.Errorf("Write of %v changes other bytes", o)
		}
		stands(t, "Read", a, o)
		if bytes(t, a) != after {
			t.Errorf("Read of %v changes bytes", o)
		}
		// What is stored beside it changes nothing of it.
		is(t, "Fill", a.Fill(0, low, 'x'), api.OK)
		is(t, "Fill", a.Fill(o.At, 4*api.Page-o.At, 'x'), api.OK)
		stands(t, "others are stored", a, o)
	}
}

func TestWriteRefuses(t *testing.T) {
	for _, o := range []Object{{}, {At: 100}, {At: 15, Size: -1, Prev: -1}, {At: math.MinInt}, {At: math.MaxInt}} {
		is(t, "of nil", Write(nil, o), api.ErrNil)
	}
	a := four(t, '.')
	before := bytes(t, a)
	refused := func(o Object, wanted api.Errno) {
		t.Helper()
		if e := Write(a, o); e != wanted || bytes(t, a) != before {
			t.Fatalf("Write of %v: error %d, wanted %d", o, e, wanted)
		}
	}
	for _, at := range []int{math.MinInt, math.MinInt + 15, math.MinInt + 16, -4096, -16, -1, 0, 1, 8, 15} {
		refused(Object{At: at}, api.ErrArg)
	}
	for _, x := range []int{math.MinInt, -4096, -1} {
		for _, at := range []int{16, 100, 4*api.Page + 1, math.MaxInt} {
			refused(Object{At: at, Size: x}, api.ErrArg)
			refused(Object{At: at, Prev: x}, api.ErrArg)
			refused(Object{At: at, Size: x, Prev: x}, api.ErrArg)
		}
	}
	for _, at := range []int{4*api.Page + 1, 4*api.Page + 15, 4*api.Page + 16, 5 * api.Page, 5*api.Page + 1, api.Most, math.MaxInt - 15, math.MaxInt} {
		refused(Object{At: at, Size: 1}, api.ErrRange)
	}
	is(t, "of an arena without pages", Write(arena.New(0), Object{At: 16}), api.ErrRange)
}

func TestReadRefuses(t *testing.T) {
	for _, at := range []int{math.MinInt, -1, 0, 15, 16, 100, math.MaxInt} {
		none(t, "of nil", nil, at, api.ErrNil)
	}
	a := four(t, '.')
	for _, at := range []int{math.MinInt, math.MinInt + 15, math.MinInt + 16, -4096, -16, -1, 0, 1, 8, 15} {
		none(t, "it may not be", a, at, api.ErrArg)
	}
	for _, at := range []int{4*api.Page + 1, 4*api.Page + 15, 4*api.Page + 16, 5 * api.Page, 5*api.Page + 1, api.Most, math.MaxInt - 15, math.MaxInt} {
		none(t, "not there", a, at, api.ErrRange)
	}
	none(t, "of an arena without pages", arena.New(0), 16, api.ErrRange)
}

// A header may lie in two pages: it is there, where both are; and the object's own bytes don't have to be.
func TestInTwoPages(t *testing.T) {
	a := four(t, '.')
	is(t, "Decommit", a.Decommit(1, 1), api.OK)
	for at := api.Page - 20; at <= 2*api.Page+40; at++ {
		wanted := api.OK
		if at > api.Page && at < 2*api.Page+16 {
			wanted = api.ErrRange
		}
		o := Object{at, at, at - 16}
		is(t, "Write", Write(a, o), wanted)
		if wanted == api.OK {
			stands(t, "beside a page that is gone", a, o)
		} else {
			none(t, "in a page that is gone", a, at, wanted)
		}
	}
	stands(t, "ahead of what was refused", a, Object{api.Page, api.Page, api.Page - 16})
}

func TestAligned(t *testing.T) {
	for align := -10; align <= 5000; align++ {
		wanted := align == 1 || align == 2 || align == 4 || align == 8 || align == 16 || align == 32 || align == 64
		if Aligned(align) != wanted {
			t.Errorf("Aligned(%d): %t", align, !wanted)
		}
	}
	for _, align := range noAligns {
		if Aligned(align) {
			t.Errorf("Aligned(%d)", align)
		}
	}
}

// fits: where an object stands in a chunk, or that it doesn't, as the chapter's words have it.
func fits(c chunk.Chunk, from, n, align int) (int, bool) {
	end := c.At + api.Page<<c.Order
	if n < 0 || from < c.At+32 || from > end {
		return 0, false
	}
	at := from + 16
	for at%align != 0 {
		at++
	}
	if n > end-at {
		return 0, false
	}
	return at, true
}

// Each place of some chunks, and sizes about what is left there.
func TestFitPlaceByPlace(t *testing.T) {
	for _, c := range []chunk.Chunk{{}, {At: 4096, Owner: 5, Next: 8192}, {At: 12288, Order: 1}, {At: api.Most - 4096}} {
		end := c.End()
		for align := 1; align <= 64; align *= 2 {
			for from := c.At - 100; from <= end+100; from++ {
				left := end - (from+16+align-1)/align*align
				for _, n := range []int{-1, 0, 1, left - 1, left, left + 1, 4048, 10000} {
					at, ok := Fit(c, from, n, align)
					wanted, has := fits(c, from, n, align)
					if at != wanted || ok != has {
						t.Fatalf("in %v Fit(%d, %d, %d): %d, %t, wanted %d, %t", c, from, n, align, at, ok, wanted, has)
					}
				}
			}
		}
	}
}

func TestFitOfAllOrders(t *testing.T) {
	for order := range api.MaxOrder + 1 {
		c := chunk.Chunk{At: 12 * api.Page, Order: order}
		end := c.End()
		for _, p := range []struct {
			from, n, align int
			at             int
			ok             bool
		}{
			{c.At + 32, end - c.At - 48, 1, c.At + 48, true},
			{c.At + 32, end - c.At - 47, 1, 0, false},
			{c.At + 32, end - c.At - 64, 64, c.At + 64, true},
			{c.At + 32, end - c.At - 63, 64, 0, false},
			{c.At + 31, 1, 1, 0, false},
			{c.At + 33, 1, 16, c.At + 64, true},
			{c.At + 33, 1, 8, c.At + 56, true},
			{c.At + 33, 1, 1, c.At + 49, true},
			{end - 16, 0, 64, end, true},
			{end - 16, 1, 64, 0, false},
			{end - 17, 1, 1, end - 1, true},
			{end - 15, 0, 1, 0, false},
			{end, 0, 1, 0, false},
			{end, -1, 1, 0, false},
			{end + 1, 0, 1, 0, false},
		} {
			if at, ok := Fit(c, p.from, p.n, p.align); at != p.at || ok != p.ok {
				t.Errorf("of order %d Fit(%d, %d, %d): %d, %t, wanted %d, %t", order, p.from-c.At, p.n, p.align, at, ok, p.at, p.ok)
			}
		}
	}
}

func TestFitRefuses(t *testing.T) {
	c := chunk.Chunk{At: 4096, Order: 2}
	refused := func(c chunk.Chunk, from, n, align int) {
		t.Helper()
		if at, ok := Fit(c, from, n, align); at != 0 || ok {
			t.Fatalf("in %v Fit(%d, %d, %d): %d, %t", c, from, n, align, at, ok)
		}
	}
	for _, align := range noAligns {
		refused(c, 4128, 1, align)
		refused(c, 4128, 0, align)
	}
	for _, from := range []int{math.MinInt, math.MinInt + 4128, -1, 0, 32, 4095, 4096, 4127, 4096 * 5, 4096*5 + 1, math.MaxInt - 79, math.MaxInt - 16, math.MaxInt - 15, math.MaxInt} {
		for align := 1; align <= 64; align *= 2 {
			refused(c, from, 0, align)
			refused(c, from, 1, align)
			refused(c, from, math.MaxInt, align)
		}
	}
	for _, n := range []int{math.MinInt, math.MinInt + 1, -4096, -1, 4096*4 - 47, 1 << 32, math.MaxInt - 4144, math.MaxInt - 4143, math.MaxInt} {
		refused(c, 4128, n, 1)
	}
	for _, order := range []int{math.MinInt, -1, 11, 64, math.MaxInt} {
		refused(chunk.Chunk{At: 4096, Order: order}, 4128, 0, 1)
	}
}

// Of chunks that nobody could write nothing goes round.
func TestFitDoesNotGoRound(t *testing.T) {
	for align := 1; align <= 64; align *= 2 {
		last := chunk.Chunk{At: math.MaxInt - 4095}
		for from := math.MaxInt - 80; from < math.MaxInt; from++ {
			at, ok := Fit(last, from, 0, align)
			if ok && (at < from || at-from < 16 || at%align != 0) || !ok && at != 0 {
				t.Fatalf("Fit(%d, 0, %d): %d, %t", from, align, at, ok)
			}
			if _, ok := Fit(last, from, math.MaxInt, align); ok {
				t.Fatalf("Fit(%d, all, %d)", from, align)
			}
		}
		for _, at := range []int{math.MinInt, -8192, -4096} {
			got, ok := Fit(chunk.Chunk{At: at}, at+33, 10, align)
			if wanted := at + (49+align-1)/align*align; !ok || got != wanted {
				t.Fatalf("of a chunk at %d Fit(33, 10, %d): %d, %t, wanted %d", at, align, got-at, ok, wanted-at)
			}
		}
	}
}

// needs: which order is needed, and is there one?
func needs(t *testing.T, front, n, align, wanted int, has bool) {
	t.Helper()
	if k, ok := Need(front, n, align); k != wanted || ok != has {
		t.Fatalf("Need(%d, %d, %d): %d, %t, wanted %d, %t", front, n, align, k, ok, wanted, has)
	}
}

// The greatest objects that an order has room for, and those of a byte more.
func TestNeedOfAllOrders(t *testing.T) {
	for order := range api.MaxOrder + 1 {
		all := api.Page << order
		for _, p := range []struct{ front, align, first int }{
			{32, 1, 48}, {32, 2, 48}, {32, 4, 48}, {32, 8, 48}, {32, 16, 48}, {32, 32, 64}, {32, 64, 64},
			{33, 1, 49}, {33, 2, 50}, {33, 4, 52}, {33, 8, 56}, {33, 16, 64}, {33, 32, 64}, {33, 64, 64},
			{1024, 1, 1040}, {1024, 16, 1040}, {1024, 32, 1056}, {1024, 64, 1088},
			{31, 1, 48}, {0, 8, 48}, {-1, 16, 48}, {math.MinInt, 32, 64}, {math.MinInt + 40, 1, 48},
		} {
			needs(t, p.front, all-p.first, p.align, order, true)
			if order < api.MaxOrder {
				needs(t, p.front, all-p.first+1, p.align, order+1, true)
			} else {
				needs(t, p.front, all-p.first+1, p.align, 0, false)
			}
		}
		// A front that leaves room for nothing, and one that is greater than the chunk.
		needs(t, all-16, 0, 64, order, true)
		if order < api.MaxOrder {
			needs(t, all-16, 1, 64, order+1, true)
			needs(t, all-15, 0, 1, order+1, true)
			needs(t, all, 0, 1, order+1, true)
			needs(t, all+1, 0, 1, order+1, true)
			needs(t, all+1, all-17, 1, order+1, true)
		} else {
			needs(t, all-15, 0, 1, 0, false)
			needs(t, all, 0, 1, 0, false)
			needs(t, all+1, 0, 1, 0, false)
		}
	}
}

func TestNeedOfLittle(t *testing.T) {
	for align := 1; align <= 64; align *= 2 {
		needs(t, 32, 0, align, 0, true)
		needs(t, 32, 1, align, 0, true)
		needs(t, 1024, 100, align, 0, true)
		needs(t, 4096, 100, align, 1, true)
	}
}

func TestNeedRefuses(t *testing.T) {
	for _, align := range noAligns {
		needs(t, 32, 1, align, 0, false)
		needs(t, 32, 0, align, 0, false)
	}
	for _, n := range []int{math.MinInt, math.MinInt + 1, -4096, -1, 4096<<10 - 47, 4096 << 10, 1 << 32, math.MaxInt - 48, math.MaxInt - 47, math.MaxInt} {
		for align := 1; align <= 64; align *= 2 {
			needs(t, 32, n, align, 0, false)
			needs(t, -1, n, align, 0, false)
		}
	}
	for _, front := range []int{4096<<10 - 15, 4096 << 10, 1 << 32, math.MaxInt - 79, math.MaxInt - 16, math.MaxInt - 15, math.MaxInt} {
		for align := 1; align <= 64; align *= 2 {
			needs(t, front, 0, align, 0, false)
			needs(t, front, 1, align, 0, false)
		}
	}
}

// A chunk of the order that is needed has room, wherever it lies; one of a lesser order hasn't.
func TestWhatIsNeededFits(t *testing.T) {
	x := 1
	number := func(below int) int {
		x = (x*1103515245 + 12345) % (1 << 31)
		return x / 64 % below
	}
	for range 20000 {
		front := number(1 + 8<<number(21))
		n := number(1 + 8<<number(21))
		align := 1 << number(7)
		k, ok := Need(front, n, align)
		for _, at := range []int{0, 4096, 12288, number(1000) * api.Page, api.Most - api.Page<<10} {
			for order := range api.MaxOrder + 1 {
				c := chunk.Chunk{At: at, Order: order, Owner: 3}
				place, fit := Fit(c, at+max(front, 32), n, align)
				if fit != (ok && order >= k) {
					t.Fatalf("Need(%d, %d, %d): %d, %t; but in a chunk of order %d at %d Fit: %d, %t", front, n, align, k, ok, order, at, place, fit)
				}
				if fit && (place < at+max(front, 32)+16 || !c.Has(place-16, n+16) || place%align != 0) {
					t.Fatalf("in a chunk of order %d at %d Fit(%d, %d, %d): %d", order, at, front, n, align, place)
				}
			}
		}
	}
}

// One behind the other, as a region has them: each in its chunk, and told by the one behind.
func TestObjectsInAChunk(t *testing.T) {
	a := four(t, 0)
	c := chunk.Chunk{At: 4096, Order: 1, Owner: 5}
	is(t, "chunk.Write", chunk.Write(a, c), api.OK)
	prev, from := 0, c.At+api.Head
	var all []Object
	for i := 0; ; i++ {
		n, align := i*13%97, 1<<(i%7)
		at, ok := Fit(c, from, n, align)
		if !ok {
			break
		}
		o := Object{at, n, prev}
		is(t, "Write", Write(a, o), api.OK)
		is(t, "Put", a.Put(at, strings.Repeat("x", n)), api.OK)
		all = append(all, o)
		prev, from = at, at+n
	}
	if len(all) < 80 {
		t.Errorf("there are %d objects", len(all))
	}
	for at := prev; at > 0; {
		last := all[len(all)-1]
		all = all[:len(all)-1]
		stands(t, "the one ahead", a, last)
		at = last.Prev
	}
	if got, e := chunk.Read(a, c.At); len(all) != 0 || e != api.OK || got != c {
		t.Errorf("%d objects are left; the chunk is %v, error %d", len(all), got, e)
	}
}
