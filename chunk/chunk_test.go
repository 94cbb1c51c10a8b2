package chunk

import (
	"math"
	"strings"
	"testing"

	"millpond/api"
	"millpond/arena"
	"millpond/view"
)

// noOrders: numbers that are no order.
var noOrders = []int{math.MinInt, math.MinInt + 1, -11, -2, -1, 11, 12, 32, 62, 63, 64, 65, 4096, math.MaxInt}

// some: chunks that may be, at pages 0, 1 and 3.
var some = []Chunk{
	{},
	{0, 10, math.MaxUint64, math.MaxInt},
	{4096, 0, 0, 0},
	{4096, 1, 7, 0},
	{4096, 0, 1, 1},
	{4096, 10, 0, 4096},
	{12288, 4, 1 << 63, 1 << 62},
	{12288, 0, 256, 4095},
	{12288, 9, math.MaxUint64, math.MaxInt},
}

// is: a test ends, if an error is another one than was wanted.
func is(t *testing.T, what string, got, wanted api.Errno) {
	t.Helper()
	if got != wanted {
		t.Fatalf("%s: error %d, wanted %d", what, got, wanted)
	}
}

// four: an arena of the cap 5, whose pages 0, 1 and 3 are committed.
func four(t *testing.T) *arena.Arena {
	t.Helper()
	a := arena.New(5)
	is(t, "Commit", a.Commit(0, 2), api.OK)
	is(t, "Commit", a.Commit(3, 1), api.OK)
	return a
}

// stands: is a chunk's header there?
func stands(t *testing.T, what string, a *arena.Arena, c Chunk) {
	t.Helper()
	if got, e := Read(a, c.At); got != c || e != api.OK {
		t.Fatalf("%s: %v, error %d, wanted %v", what, got, e, c)
	}
}

// none: is there an error, and no chunk beside it?
func none(t *testing.T, what string, a *arena.Arena, at int, wanted api.Errno) {
	t.Helper()
	if got, e := Read(a, at); got != (Chunk{}) || e != wanted {
		t.Fatalf("%s: at %d %v, error %d, wanted error %d", what, at, got, e, wanted)
	}
}

// bytes: what stands in the pages 0, 1 and 3.
func bytes(t *testing.T, a *arena.Arena) string {
	t.Helper()
	low, e := a.Bytes(0, 2*api.Page)
	is(t, "Bytes", e, api.OK)
	high, e := a.Bytes(3*api.Page, api.Page)
	is(t, "Bytes", e, api.OK)
	return low + high
}

func TestExample(t *testing.T) {
	c := Chunk{At: 4096, Order: 1}
	if c.End() != 12288 || !c.Has(4128, 8160) || c.Has(4127, 1) {
		t.Errorf("it ends at %d", c.End())
	}
}

func TestWriteAndRead(t *testing.T) {
	for _, c := range some {
		a := four(t)
		none(t, "of a new page", a, c.At, api.ErrKind)
		is(t, "Write", Write(a, c), api.OK)
		stands(t, "what was written", a, c)
		stands(t, "what was read", a, c)
		stands(t, "of a clone", a.Clone(), c)
	}
}

// Of each page, order, owner and next: one behind the other at one place, so that nothing is left of the one ahead.
func TestWhatWasWrittenIsRead(t *testing.T) {
	a := arena.New(40)
	is(t, "Commit", a.Commit(0, 40), api.OK)
	is(t, "Fill", a.Fill(0, 40*api.Page, 255), api.OK)
	for page := range 40 {
		none(t, "of other bytes", a, page*api.Page, api.ErrKind)
		for order := range api.MaxOrder + 1 {
			for bit := range 64 {
				c := Chunk{page * api.Page, order, 1 << bit, math.MaxInt >> bit}
				is(t, "Write", Write(a, c), api.OK)
				stands(t, "what was written", a, c)
			}
		}
	}
}

func TestWriteStaysInItsPlace(t *testing.T) {
	for _, c := range some {
		a := four(t)
		for _, page := range []int{0, 1, 3} {
			is(t, "Fill", a.Fill(page*api.Page, api.Page, '.'), api.OK)
		}
		before := bytes(t, a)
		at := min(c.At, 2*api.Page) // among the pages that are committed
		apart := func(what string) {
			t.Helper()
			after := bytes(t, a)
			if after[:at] != before[:at] || after[at+api.Head:] != before[at+api.Head:] {
				t.Errorf("%s of %v changes other bytes", what, c)
			}
		}
		is(t, "Write", Write(a, c), api.OK)
		apart("Write")
		if bytes(t, a) == before {
			t.Errorf("Write of %v changes nothing", c)
		}
		held := bytes(t, a)
		stands(t, "Read", a, c)
		if bytes(t, a) != held {
			t.Errorf("Read of %v changes bytes", c)
		}
		is(t, "Wipe", Wipe(a, c.At), api.OK)
		apart("Wipe")
		if after := bytes(t, a); after[at:at+api.Head] != strings.Repeat("\x00", api.Head) {
			t.Errorf("Wipe of %v leaves %q", c, after[at:at+api.Head])
		}
		none(t, "wiped", a, c.At, api.ErrKind)
	}
}

func TestOneBesideTheOther(t *testing.T) {
	a := four(t)
	one, two, three := Chunk{0, 0, 5, 12288}, Chunk{4096, 1, 6, 0}, Chunk{12288, 10, 5, 4096}
	for _, c := range []Chunk{three, one, two} {
		is(t, "Write", Write(a, c), api.OK)
	}
	stands(t, "one", a, one)
	stands(t, "two", a, two)
	stands(t, "three", a, three)
	is(t, "Wipe", Wipe(a, two.At), api.OK)
	none(t, "wiped", a, two.At, api.ErrKind)
	stands(t, "one", a, one)
	stands(t, "three", a, three)
	one.Next, one.Owner = 0, 0
	is(t, "Write", Write(a, one), api.OK)
	stands(t, "one, written again", a, one)
	stands(t, "three", a, three)
}

func TestWriteRefuses(t *testing.T) {
	is(t, "of nil", Write(nil, Chunk{}), api.ErrNil)
	is(t, "of nil", Write(nil, Chunk{At: 1, Order: -1, Next: -1}), api.ErrNil)
	is(t, "of nil", Write(nil, Chunk{At: -4096}), api.ErrNil)
	a := four(t)
	for _, page := range []int{0, 1, 3} {
		is(t, "Write", Write(a, Chunk{page * api.Page, 2, 9, 0}), api.OK)
	}
	before := bytes(t, a)
	refused := func(c Chunk, wanted api.Errno) {
		t.Helper()
		if e := Write(a, c); e != wanted || bytes(t, a) != before {
			t.Fatalf("Write of %v: error %d, wanted %d", c, e, wanted)
		}
	}
	for _, at := range []int{math.MinInt, math.MinInt + 4096, -8192, -4096, -1, 1, 31, 32, 2048, 4095, 4097, 4128, 8191, 8193, math.MaxInt} {
		refused(Chunk{At: at, Owner: 1}, api.ErrArg)
	}
	for _, order := range noOrders {
		refused(Chunk{At: 4096, Order: order, Owner: 1}, api.ErrArg)
		refused(Chunk{At: 8192, Order: order, Owner: 1}, api.ErrArg)
	}
	for _, next := range []int{math.MinInt, -4096, -1} {
		refused(Chunk{At: 4096, Owner: 1, Next: next}, api.ErrArg)
		refused(Chunk{At: 8192, Owner: 1, Next: next}, api.ErrArg)
	}
	for _, at := range []int{8192, 4 * 4096, 5 * 4096, 6 * 4096, api.Most - 4096, api.Most, math.MaxInt - 4095} {
		refused(Chunk{At: at, Owner: 1}, api.ErrRange)
	}
	is(t, "of an arena without pages", Write(arena.New(0), Chunk{}), api.ErrRange)
}

func TestReadAndWipeRefuse(t *testing.T) {
	a := four(t)
	for _, page := range []int{0, 1, 3} {
		is(t, "Write", Write(a, Chunk{page * api.Page, 2, 9, 0}), api.OK)
	}
	before := bytes(t, a)
	for _, at := range []int{math.MinInt, -4096, -1, 0, 1, 4096, math.MaxInt} {
		none(t, "of nil", nil, at, api.ErrNil)
		is(t, "Wipe of nil", Wipe(nil, at), api.ErrNil)
	}
	for _, at := range []int{math.MinInt, math.MinInt + 4096, -4096, -32, -1, 8192 - 31, 8191, 8192, 12288 - 32, 12287, 16384 - 31, 16384, 5*4096 - 32, 5 * 4096, 5*4096 + 1, api.Most, math.MaxInt - 4095, math.MaxInt - 31, math.MaxInt} {
		none(t, "not there", a, at, api.ErrRange)
		is(t, "Wipe", Wipe(a, at), api.ErrRange)
	}
	if bytes(t, a) != before {
		t.Error("a refused Wipe has changed bytes")
	}
	// The last places where 32 bytes are there, and none where a header may stand.
	for _, at := range []int{1, 32, 4064, 4095, 4097, 8192 - 32, 12289, 16384 - 32} {
		none(t, "none stands", a, at, api.ErrKind)
	}
	for _, at := range []int{8192 - 32, 16384 - 32} {
		is(t, "Wipe", Wipe(a, at), api.OK)
	}
}

func TestWipeOfAPlaceThatIsNoHeader(t *testing.T) {
	a := four(t)
	is(t, "Fill", a.Fill(0, 2*api.Page, '.'), api.OK)
	is(t, "Wipe", Wipe(a, 4090), api.OK)
	s, e := a.Bytes(4089, 34)
	is(t, "Bytes", e, api.OK)
	if s != "."+strings.Repeat("\x00", api.Head)+"." {
		t.Errorf("there stands %q", s)
	}
}

// Noughts are none, wherever they are.
func TestNoughtsAreNone(t *testing.T) {
	a := arena.New(api.MaxPages)
	is(t, "Commit", a.Commit(0, api.MaxPages), api.OK)
	for page := range api.MaxPages {
		none(t, "noughts", a, page*api.Page, api.ErrKind)
	}
	last := Chunk{(api.MaxPages - 1) * api.Page, 0, 3, 0}
	is(t, "Write", Write(a, last), api.OK)
	stands(t, "in the last page", a, last)
	if last.End() != api.Most {
		t.Errorf("the last page ends at %d", last.End())
	}
}

// A header doesn't stand any more, whichever of its bytes is another one.
func TestAHeaderThatIsStoredInIsNone(t *testing.T) {
	for _, c := range some {
		a := four(t)
		is(t, "Write", Write(a, c), api.OK)
		for i := range api.Head {
			was, _ := a.Load(c.At+i, 1)
			for x := range uint64(256) {
				is(t, "Store", a.Store(c.At+i, 1, x), api.OK)
				if x != was {
					none(t, "a byte is another one", a, c.At, api.ErrKind)
				}
			}
			is(t, "Store", a.Store(c.At+i, 1, was), api.OK)
		}
		for _, width := range []int{2, 4, 8} {
			for i := 0; i < api.Head; i += width {
				was, _ := a.Load(c.At+i, width)
				for _, x := range []uint64{was + 1, was - 1, ^was, was << 1, was + 1<<15} {
					is(t, "Store", a.Store(c.At+i, width, x), api.OK)
					if now, _ := a.Load(c.At+i, width); now != was {
						none(t, "a number is another one", a, c.At, api.ErrKind)
					}
				}
				is(t, "Store", a.Store(c.At+i, width, was), api.OK)
			}
		}
		for n := 1; n <= api.Head; n++ {
			for _, x := range []byte{0, 1, 'x', 255} {
				twin := a.Clone()
				is(t, "Fill", twin.Fill(c.At+api.Head-n, n, x), api.OK)
				now, _ := twin.Bytes(c.At, api.Head)
				if was, _ := a.Bytes(c.At, api.Head); now != was {
					none(t, "it is filled", twin, c.At, api.ErrKind)
				}
			}
		}
		// What is stored behind it is no part of it.
		is(t, "Fill", a.Fill(c.At+api.Head, api.Page-api.Head, 'x'), api.OK)
		stands(t, "behind it is stored", a, c)
	}
}

// Parts of two headers are no header, nor is one that was laid at another place.
func TestACopyIsNone(t *testing.T) {
	for _, c := range some {
		for _, d := range some {
			if c.At == d.At {
				continue
			}
			for from := range api.Head {
				a := four(t)
				is(t, "Write", Write(a, c), api.OK)
				is(t, "Write", Write(a, d), api.OK)
				was, _ := a.Bytes(d.At, api.Head)
				is(t, "Copy", a.Copy(d.At+from, c.At+from, api.Head-from), api.OK)
				if now, _ := a.Bytes(d.At, api.Head); now != was {
					none(t, "a copy, or a part of one", a, d.At, api.ErrKind)
				}
			}
		}
	}
	a := four(t)
	is(t, "Write", Write(a, some[3]), api.OK)
	for _, to := range []int{0, 1, 64, 4096 + 1, 4096 + 32, 8192 - 32, 12288} {
		twin := a.Clone()
		is(t, "Copy", twin.Copy(to, some[3].At, api.Head), api.OK)
		none(t, "a copy", twin, to, api.ErrKind)
	}
}

// What Write refuses is none, even if its numbers agree.
func TestWhatMayNotBeIsNone(t *testing.T) {
	a := four(t)
	for _, c := range []Chunk{{At: 4097}, {At: 4160, Owner: 1}, {At: 4096, Order: -1}, {At: 4096, Order: 11}, {At: 4096, Order: math.MaxInt}, {At: 4096, Order: math.MinInt}, {At: 4096, Next: -1}, {At: 4096, Next: math.MinInt}} {
		v, e := view.Of(a, c.At, api.Head)
		is(t, "view.Of", e, api.OK)
		is(t, "Put", header().Put(v, c.check(), uint64(c.Order+1), c.Owner, uint64(c.Next)), api.OK)
		none(t, "it may not be", a, c.At, api.ErrKind)
	}
}

func TestAPageThatComesAgainHasNone(t *testing.T) {
	a := four(t)
	c := Chunk{4096, 1, 7, 0}
	is(t, "Write", Write(a, c), api.OK)
	is(t, "Decommit", a.Decommit(1, 1), api.OK)
	none(t, "gone", a, c.At, api.ErrRange)
	is(t, "Wipe", Wipe(a, c.At), api.ErrRange)
	is(t, "Commit", a.Commit(1, 1), api.OK)
	none(t, "there again", a, c.At, api.ErrKind)
}

func TestCloneStandsApart(t *testing.T) {
	a := four(t)
	c := Chunk{4096, 1, 7, 0}
	is(t, "Write", Write(a, c), api.OK)
	twin := a.Clone()
	is(t, "Wipe", Wipe(twin, c.At), api.OK)
	stands(t, "here", a, c)
	none(t, "there", twin, c.At, api.ErrKind)
}

func TestEnd(t *testing.T) {
	for order := range api.MaxOrder + 1 {
		for _, at := range []int{0, 4096, 12288, api.Most - 4096, api.Most} {
			if end := (Chunk{at, order, 3, 4096}).End(); end != at+4096<<order {
				t.Errorf("of order %d at %d: %d", order, at, end)
			}
		}
	}
}

func TestHas(t *testing.T) {
	for order := range api.MaxOrder + 1 {
		for _, at := range []int{0, 4096, api.Most - 4096<<order} {
			c := Chunk{at, order, 3, 4096}
			low, high := at+32, at+4096<<order
			for _, p := range []struct {
				at, n int
				has   bool
			}{
				{low, high - low, true}, {low, high - low + 1, false}, {low - 1, high - low + 1, false}, {low - 1, 1, false},
				{low, 1, true}, {low, 0, true}, {low, -1, false}, {low + 1, -1, false}, {high, -1, false}, {high, -32, false},
				{high - 1, 1, true}, {high - 1, 2, false}, {high, 1, false}, {high, 0, true}, {high + 1, 0, false}, {high + 1, -1, false},
				{low - 1, 0, false}, {at, 0, false}, {at, 1, false}, {at, high - at, false}, {at - 1, 1, false}, {at - 1, 0, false}, {-1, 0, false},
				{low + 1, math.MaxInt, false}, {low, math.MinInt, false}, {high, math.MaxInt, false}, {math.MaxInt, 0, false}, {math.MaxInt, 1, false},
				{math.MaxInt, math.MaxInt, false}, {math.MinInt, 0, false}, {math.MinInt, 1, false}, {math.MinInt, math.MaxInt, false}, {math.MinInt + 32, 1, false}, {math.MinInt, math.MinInt, false},
				{low + 100, 1000, true}, {high - 100, 100, true}, {high - 100, 101, false},
			} {
				if got := c.Has(p.at, p.n); got != p.has {
					t.Errorf("of order %d at %d: Has(%d, %d): %t", order, at, p.at, p.n, got)
				}
			}
		}
	}
}

func TestHasDoesNotGoRound(t *testing.T) {
	for _, c := range []Chunk{{At: math.MaxInt - 4095, Order: 1}, {At: math.MinInt, Order: 10}, {At: -8192}} {
		for _, at := range []int{math.MinInt, math.MinInt + 10, math.MinInt + 31, 32, 40} {
			if c.Has(at, 0) || c.Has(at, 1) {
				t.Errorf("of order %d at %d: Has(%d, 1)", c.Order, c.At, at)
			}
		}
	}
}

// Each place of a small chunk, held against its words: byte by byte.
func TestHasByteByByte(t *testing.T) {
	c := Chunk{4096, 0, 1, 0}
	for at := 4000; at < 8300; at++ {
		in := 0 // how many bytes from there on lie in it
		for at+in >= 4096+32 && at+in < 8192 {
			in++
		}
		for _, n := range []int{-1, 1, 2, in - 1, in, in + 1, in + 2} {
			if n == 0 {
				continue
			}
			if got, wanted := c.Has(at, n), n > 0 && n <= in; got != wanted {
				t.Fatalf("Has(%d, %d): %t", at, n, got)
			}
		}
	}
}
