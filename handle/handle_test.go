package handle

import (
	"math"
	"slices"
	"strings"
	"testing"

	"millpond/api"
	"millpond/arena"
	"millpond/view"
)

// bad: numbers that are no address of a slot.
var bad = []int{math.MinInt, math.MinInt + 1, -1 << 32, -4096, -16, -1, 0}

// good: numbers that are, whether the arena has them or not.
var good = []int{1, 15, 255, 256, 4095, 4096, 8192, 1 << 31, api.Most - 1, api.Most, 1<<56 - 1, 1 << 56, 1 << 62, math.MaxInt - 1, math.MaxInt}

// none: handles that no table of these tests has ever told.
var none = []api.Handle{0, 1, 2, 3, 255, 1 << 40, 1<<63 - 1, 1 << 63, math.MaxUint64 - 255, math.MaxUint64 - 1, math.MaxUint64}

// is: a test ends, if an error is another one than was wanted.
func is(t *testing.T, what string, got, wanted api.Errno) {
	t.Helper()
	if got != wanted {
		t.Fatalf("%s: error %d, wanted %d", what, got, wanted)
	}
}

// pages: an arena, whose pages are all committed.
func pages(t *testing.T, cap int) *arena.Arena {
	t.Helper()
	a := arena.New(cap)
	is(t, "Commit", a.Commit(0, cap), api.OK)
	return a
}

// table: that of a view.
func table(t *testing.T, a *arena.Arena, at, size int) Table {
	t.Helper()
	v, e := view.Of(a, at, size)
	is(t, "view.Of", e, api.OK)
	return Open(v)
}

// slots: a new table of so many.
func slots(t *testing.T, n int) Table {
	t.Helper()
	return table(t, pages(t, 3), 8, 16*n)
}

// whole: all bytes that are committed.
func whole(t *testing.T, a *arena.Arena) string {
	t.Helper()
	var all strings.Builder
	for first, n := range a.Pages().Rows() {
		s, e := a.Bytes(first*api.Page, n*api.Page)
		is(t, "Bytes", e, api.OK)
		all.WriteString(s)
	}
	return all.String()
}

// same: a call changes nothing.
func same(t *testing.T, a *arena.Arena, what string, call func()) {
	t.Helper()
	before := whole(t, a)
	call()
	if whole(t, a) != before {
		t.Fatalf("%s changes something", what)
	}
}

// create: a handle more, that should be that one, and that Next tells ahead.
func create(t *testing.T, b Table, at int, wanted api.Handle) api.Handle {
	t.Helper()
	comes(t, b, wanted, api.OK)
	h, e := b.New(at)
	if h != wanted || e != api.OK {
		t.Fatalf("New(%d): %d, error %d, wanted %d", at, h, e, wanted)
	}
	names(t, b, h, at)
	return h
}

// comes: what Next tells, without that anything is done.
func comes(t *testing.T, b Table, wanted api.Handle, fault api.Errno) {
	t.Helper()
	same(t, b.Arena, "Next", func() {
		t.Helper()
		if h, e := b.Next(); h != wanted || e != fault {
			t.Fatalf("Next: %d, error %d, wanted %d, error %d", h, e, wanted, fault)
		}
	})
}

// names: a handle names an address.
func names(t *testing.T, b Table, h api.Handle, wanted int) {
	t.Helper()
	if at, e := b.Get(h); at != wanted || e != api.OK {
		t.Fatalf("Get(%d): %d, error %d, wanted %d", h, at, e, wanted)
	}
}

// nothing: a handle names nothing, whatever is asked of it; and that changes nothing.
func nothing(t *testing.T, b Table, h api.Handle) {
	t.Helper()
	same(t, b.Arena, "what is refused", func() {
		t.Helper()
		if at, e := b.Get(h); at != 0 || e != api.ErrHandle {
			t.Fatalf("Get(%d): %d, error %d", h, at, e)
		}
		is(t, "Drop", b.Drop(h), api.ErrHandle)
		for _, at := range good {
			is(t, "Move", b.Move(h, at), api.ErrHandle)
		}
		for _, at := range bad {
			is(t, "Move", b.Move(h, at), api.ErrArg)
		}
	})
}

// tells: are these the handles?
func tells(t *testing.T, b Table, wanted ...api.Handle) {
	t.Helper()
	if all := b.All(); !slices.Equal(all, wanted) {
		t.Fatalf("it has %d, wanted %d", all, wanted)
	}
}

func TestExample(t *testing.T) {
	b := slots(t, 5)
	h := create(t, b, 4096, 256)
	is(t, "Drop", b.Drop(h), api.OK)
	k := create(t, b, 8192, 512)
	nothing(t, b, h)
	names(t, b, k, 8192)
}

// P17.1

func TestOpenAndLen(t *testing.T) {
	a := pages(t, 3)
	for _, at := range []int{0, 1, 4090, 8191} {
		for _, size := range []int{0, 1, 15, 16, 17, 31, 32, 33, 47, 48, 4079, 4080, 4095, 4096, 4097} {
			b := table(t, a, at, size)
			if b.Len() != min(size/16, 256) {
				t.Errorf("of %d bytes: %d slots", size, b.Len())
			}
			if b.At() != at || b.Size() != size || b.Arena != a || b.Cap() != 3 {
				t.Errorf("the table of %d bytes isn't that of its view", size)
			}
			tells(t, b)
			if size < 16 {
				comes(t, b, 0, api.ErrFull)
			} else {
				comes(t, b, 256, api.OK)
			}
			for _, h := range append(none, 256, 257, 511, 512) {
				nothing(t, b, h)
			}
		}
	}
	if n := table(t, a, 0, 3*api.Page).Len(); n != 256 {
		t.Errorf("of three pages: %d slots", n)
	}
}

func TestNewTakesTheLeastFreeSlot(t *testing.T) {
	b := slots(t, 4)
	for i := range 4 {
		create(t, b, 1000+i, api.Handle(256+i))
	}
	tells(t, b, 256, 257, 258, 259)
	comes(t, b, 0, api.ErrFull)
	is(t, "Drop", b.Drop(258), api.OK)
	is(t, "Drop", b.Drop(257), api.OK)
	tells(t, b, 256, 259)
	create(t, b, 5, 513)
	create(t, b, 5, 514)
	tells(t, b, 256, 513, 514, 259)
	is(t, "Drop", b.Drop(514), api.OK)
	create(t, b, 6, 770)
	tells(t, b, 256, 513, 770, 259)
	is(t, "Drop", b.Drop(256), api.OK)
	is(t, "Drop", b.Drop(770), api.OK)
	create(t, b, 7, 512)
	tells(t, b, 512, 513, 259)
	for _, h := range append(none, 256, 257, 258, 514, 515, 768, 770, 1026) {
		nothing(t, b, h)
	}
}

func TestNewRefuses(t *testing.T) {
	for n := range 4 {
		b := slots(t, n)
		for range 2 {
			same(t, b.Arena, "New", func() {
				for _, at := range bad {
					if h, e := b.New(at); h != 0 || e != api.ErrArg {
						t.Errorf("New(%d): %d, error %d", at, h, e)
					}
				}
			})
			for i := range n {
				b.New(i + 1)
			}
			same(t, b.Arena, "New", func() {
				for _, at := range good {
					if h, e := b.New(at); h != 0 || e != api.ErrFull {
						t.Errorf("New(%d) of a full one: %d, error %d", at, h, e)
					}
				}
			})
			comes(t, b, 0, api.ErrFull)
		}
	}
}

func TestAllAddressesThatMayBe(t *testing.T) {
	b := slots(t, len(good)+1)
	for i, at := range good {
		create(t, b, at, api.Handle(256+i))
	}
	for i, at := range good {
		names(t, b, api.Handle(256+i), at)
	}
	x := create(t, b, 1, api.Handle(256+len(good)))
	for _, at := range good {
		is(t, "Move", b.Move(x, at), api.OK)
		names(t, b, x, at)
	}
	for i, at := range good {
		names(t, b, api.Handle(256+i), at)
	}
}

func TestAllSlots(t *testing.T) {
	for _, size := range []int{4096, 4100, 3*api.Page - 5} {
		a := pages(t, 3)
		is(t, "Fill", a.Fill(5+4096, 3*api.Page-4101, 'x'), api.OK)
		b := table(t, a, 5, size)
		var all []api.Handle
		for i := range 256 {
			all = append(all, create(t, b, 7*i+1, api.Handle(256+i)))
		}
		comes(t, b, 0, api.ErrFull)
		tells(t, b, all...)
		for i := range 256 {
			names(t, b, all[i], 7*i+1)
			is(t, "Drop", b.Drop(all[i]), api.OK)
			all[i] = create(t, b, 9*i+1, api.Handle(512+i))
			tells(t, b, all...)
		}
		if s, _ := a.Bytes(5+4096, 3*api.Page-4101); s != strings.Repeat("x", len(s)) {
			t.Error("bytes behind the last slot have changed")
		}
	}
}

func TestMoveAndDrop(t *testing.T) {
	b := slots(t, 3)
	h, k := create(t, b, 4096, 256), create(t, b, 4096, 257)
	is(t, "Move", b.Move(k, 8192), api.OK)
	names(t, b, h, 4096)
	names(t, b, k, 8192)
	same(t, b.Arena, "Move", func() {
		for _, at := range bad {
			is(t, "Move", b.Move(h, at), api.ErrArg)
			is(t, "Move", b.Move(999, at), api.ErrArg)
		}
		is(t, "Move", b.Move(h, 4096), api.OK)
	})
	tells(t, b, h, k)
	is(t, "Drop", b.Drop(h), api.OK)
	nothing(t, b, h)
	tells(t, b, k)
	names(t, b, k, 8192)
	is(t, "Drop", b.Drop(k), api.OK)
	nothing(t, b, k)
	tells(t, b)
	comes(t, b, 512, api.OK)
}

// What differs from a handle in the slot, or the generation, alone is another one.
func TestOtherHandlesNameNothing(t *testing.T) {
	b := slots(t, 3)
	for range 3 {
		h, e := b.New(4096)
		is(t, "New", e, api.OK)
		is(t, "Drop", b.Drop(h), api.OK)
	}
	h := create(t, b, 4096, 1024)
	k := create(t, b, 8192, 257)
	for bit := range 64 {
		for _, x := range []api.Handle{h, k} {
			if y := x ^ 1<<bit; y != h && y != k {
				nothing(t, b, y)
			}
		}
	}
	for _, x := range append(none, 256, 512, 768, 1025, 1280, 513, 258, 259) {
		nothing(t, b, x)
	}
	names(t, b, h, 4096)
	names(t, b, k, 8192)
}

func TestTheZeroTable(t *testing.T) {
	for _, b := range []Table{{}, Open(view.View{})} {
		if b.Len() != 0 || len(b.All()) != 0 {
			t.Errorf("it has %d slots, and %d", b.Len(), b.All())
		}
		if h, e := b.Next(); h != 0 || e != api.ErrNil {
			t.Errorf("Next: %d, error %d", h, e)
		}
		for _, at := range append(bad, good...) {
			if h, e := b.New(at); h != 0 || e != api.ErrNil {
				t.Errorf("New: %d, error %d", h, e)
			}
			for _, h := range append(none, 256) {
				is(t, "Move", b.Move(h, at), api.ErrNil)
			}
		}
		for _, h := range append(none, 256) {
			if at, e := b.Get(h); at != 0 || e != api.ErrNil {
				t.Errorf("Get: %d, error %d", at, e)
			}
			is(t, "Drop", b.Drop(h), api.ErrNil)
		}
	}
}

func TestAllIsNewMemory(t *testing.T) {
	b := slots(t, 3)
	create(t, b, 1, 256)
	create(t, b, 2, 257)
	one, two := b.All(), b.All()
	one[0], one[1] = 7, 7
	if !slices.Equal(two, []api.Handle{256, 257}) {
		t.Errorf("another answer is %d", two)
	}
	tells(t, b, two...)
}

func TestOnlySlotsAreStoredIn(t *testing.T) {
	a := pages(t, 3)
	is(t, "Fill", a.Fill(0, 3*api.Page, 'x'), api.OK)
	b := table(t, a, 4089, 16*5+9)
	is(t, "Fill", b.Fill(0, 16*5, 0), api.OK)
	for i := range 5 {
		create(t, b, math.MaxInt-i, api.Handle(256+i))
	}
	is(t, "Drop", b.Drop(256), api.OK)
	create(t, b, 3, 512)
	for at, x := range []byte(whole(t, a)) {
		if mine := at >= 4089 && at < 4089+16*5; !mine && x != 'x' {
			t.Fatalf("the byte %d is %d", at, x)
		}
	}
}

// Slots that aren't there any more hold nothing, nor may they.
func TestSlotsThatAreNotThereAnyMore(t *testing.T) {
	for _, first := range []int{32, 40} { // up to the page's end: two slots, or two and a half
		a := pages(t, 2)
		b := table(t, a, api.Page-first, 5*16)
		for i := range 4 {
			create(t, b, 100+i, api.Handle(256+i))
		}
		is(t, "Drop", b.Drop(256), api.OK)
		is(t, "Decommit", a.Decommit(1, 1), api.OK)
		if b.Len() != 5 {
			t.Errorf("Len: %d", b.Len())
		}
		tells(t, b, 257)
		for _, h := range []api.Handle{256, 258, 259, 260, 514} {
			nothing(t, b, h)
		}
		create(t, b, 200, 512)
		comes(t, b, 0, api.ErrFull)
		if h, e := b.New(1); h != 0 || e != api.ErrFull {
			t.Errorf("New: %d, error %d", h, e)
		}
		tells(t, b, 512, 257)
	}
}

// P17.2

func TestTheLastGeneration(t *testing.T) {
	const last = 1<<56 - 1
	b := slots(t, 2)
	is(t, "Store", b.Store(generationAt, 8, last-2), api.OK)
	one := create(t, b, 5, (last-1)*256)
	is(t, "Drop", b.Drop(one), api.OK)
	two := create(t, b, 6, last*256)
	nothing(t, b, one)
	names(t, b, two, 6)
	tells(t, b, two)
	is(t, "Move", b.Move(two, 7), api.OK)
	is(t, "Drop", b.Drop(two), api.OK)
	// The slot is free, but has no handle left.
	nothing(t, b, one)
	nothing(t, b, two)
	three := create(t, b, 8, 257)
	comes(t, b, 0, api.ErrFull)
	if h, e := b.New(9); h != 0 || e != api.ErrFull {
		t.Errorf("New: %d, error %d", h, e)
	}
	tells(t, b, three)
	nothing(t, b, two)
	is(t, "Store", b.Store(16+generationAt, 8, last), api.OK)
	names(t, b, last*256+1, 8)
	is(t, "Drop", b.Drop(last*256+1), api.OK)
	comes(t, b, 0, api.ErrFull)
	tells(t, b)
}

func TestTheTableIsInTheArenaAlone(t *testing.T) {
	a := pages(t, 3)
	b, again := table(t, a, 64, 64), table(t, a, 64, 64)
	create(t, b, 4096, 256)
	create(t, again, 8192, 257)
	create(t, b, 12288, 258)
	is(t, "Drop", again.Drop(256), api.OK)
	twin := table(t, a.Clone(), 64, 64)
	is(t, "Move", b.Move(258, 5), api.OK)
	is(t, "Drop", twin.Drop(257), api.OK)
	for _, x := range []Table{b, again, table(t, a, 64, 64)} {
		tells(t, x, 257, 258)
		names(t, x, 257, 8192)
		names(t, x, 258, 5)
		nothing(t, x, 256)
		comes(t, x, 512, api.OK)
	}
	tells(t, twin, 258)
	names(t, twin, 258, 12288)
	nothing(t, twin, 256)
	nothing(t, twin, 257)
	create(t, twin, 1, 512)
	create(t, twin, 1, 513)
	nothing(t, b, 512)
	// A table of more of the same bytes has the same handles, and some slots more.
	tells(t, table(t, a, 64, 160), 257, 258)
	tells(t, table(t, a, 64, 32), 257)
}

// model is a table as its chapter's words have it.
type model struct {
	at          []int // 0: free
	generations []uint64
	dropped     []api.Handle
}

func (m *model) next() (int, api.Handle) {
	i := slices.Index(m.at, 0)
	if i < 0 {
		return 0, 0
	}
	return i, api.Handle((m.generations[i]+1)*256 + uint64(i))
}

func (m *model) all() []api.Handle {
	var all []api.Handle
	for i, at := range m.at {
		if at > 0 {
			all = append(all, api.Handle(m.generations[i]*256+uint64(i)))
		}
	}
	return all
}

func TestAsTheChapterSays(t *testing.T) {
	for _, n := range []int{1, 2, 7, 40} {
		a := pages(t, 2)
		b := table(t, a, 4000, 16*n+n%16)
		m := &model{at: make([]int, n), generations: make([]uint64, n)}
		x := n
		number := func(below int) int {
			x = (x*1103515245 + 12345) % (1 << 31)
			return x / 64 % below
		}
		for step := range 3000 {
			all := m.all()
			// In rows the table fills, and empties.
			switch k := number(10); {
			case k < 4 && step/100%2 == 0 || len(all) == 0:
				i, wanted := m.next()
				if wanted == 0 {
					comes(t, b, 0, api.ErrFull)
					break
				}
				m.at[i] = 1 + number(1<<20)
				m.generations[i]++
				create(t, b, m.at[i], wanted)
				if slices.Contains(m.dropped, wanted) {
					t.Fatalf("%d is told again", wanted)
				}
			case k < 7:
				h := all[number(len(all))]
				is(t, "Drop", b.Drop(h), api.OK)
				m.at[h%256] = 0
				m.dropped = append(m.dropped, h)
			case k < 9:
				h := all[number(len(all))]
				m.at[h%256] = 1 + number(1<<20)
				is(t, "Move", b.Move(h, m.at[h%256]), api.OK)
			default:
				b = table(t, b.Clone(), 4000, 16*n+n%16)
			}
			tells(t, b, m.all()...)
			for _, h := range m.all() {
				names(t, b, h, m.at[h%256])
			}
			for i := 0; i < len(m.dropped); i += 1 + len(m.dropped)/8 {
				if at, e := b.Get(m.dropped[i]); at != 0 || e != api.ErrHandle {
					t.Fatalf("Get(%d), that was dropped: %d, error %d", m.dropped[i], at, e)
				}
			}
		}
	}
}
