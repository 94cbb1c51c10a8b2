package data

import (
	"math"
	"slices"
	"strconv"
	"strings"
	"testing"

	"millpond/api"
	"millpond/arena"
	"millpond/view"
)

const (
	sixteen   = "abcdefghijklmnop"
	seventeen = "abcdefghijklmnopq"
)

// odd: keys that are some of any bytes.
var odd = []string{"\x00", "\x00\x00", "a\x00", "\x00a", "\xff", "\x10", " ", "A", "aa", sixteen[:15], sixteen, strings.Repeat("\x00", 16), strings.Repeat("\xff", 16)}

// long: keys that are too long; of some the first bytes, or the length's lowest byte, are those of a key that may be.
var long = []string{seventeen, sixteen + sixteen, strings.Repeat("a", 255), strings.Repeat("a", 256), strings.Repeat("a", 257), strings.Repeat("a", 70000)}

// is: a test ends, if an error is another one than was wanted.
func is(t *testing.T, what string, got, wanted api.Errno) {
	t.Helper()
	if got != wanted {
		t.Fatalf("%s: error %d, wanted %d", what, got, wanted)
	}
}

// pages: an arena, whose pages are all committed.
func pages(t *testing.T, cap int) *arena.Arena {
	t.Helper()
	a := arena.New(cap)
	is(t, "Commit", a.Commit(0, cap), api.OK)
	return a
}

// keys: those of a view.
func keys(t *testing.T, a *arena.Arena, at, size int) Keys {
	t.Helper()
	v, e := view.Of(a, at, size)
	is(t, "view.Of", e, api.OK)
	return Open(v)
}

// room: new keys, so many at most.
func room(t *testing.T, n int) Keys {
	t.Helper()
	return keys(t, pages(t, 2), 8, 32*n)
}

// filled: keys, so many at most, of which some are set to 1, 2 and so on.
func filled(t *testing.T, n int, names ...string) Keys {
	t.Helper()
	k := room(t, n)
	for i, name := range names {
		is(t, "Set", k.Set(name, uint64(i+1)), api.OK)
	}
	return k
}

// numbered: items of these keys, with the numbers 1, 2 and so on.
func numbered(names ...string) []Item {
	var all []Item
	for i, name := range names {
		all = append(all, Item{name, uint64(i + 1)})
	}
	return all
}

// whole: all bytes that are committed.
func whole(t *testing.T, a *arena.Arena) string {
	t.Helper()
	var all strings.Builder
	for first, n := range a.Pages().Rows() {
		s, e := a.Bytes(first*api.Page, n*api.Page)
		is(t, "Bytes", e, api.OK)
		all.WriteString(s)
	}
	return all.String()
}

// same: a call changes nothing.
func same(t *testing.T, a *arena.Arena, what string, call func()) {
	t.Helper()
	before := whole(t, a)
	call()
	if whole(t, a) != before {
		t.Fatalf("%s changes something", what)
	}
}

// tells: are these all items, and is each of them got? To ask changes nothing.
func tells(t *testing.T, what string, k Keys, wanted ...Item) {
	t.Helper()
	same(t, k.Arena, "to ask", func() {
		t.Helper()
		if all := k.All(); !slices.Equal(all, wanted) {
			t.Fatalf("%s: it has %v, wanted %v", what, all, wanted)
		}
		for _, x := range wanted {
			if n, ok := k.Get(x.Key); n != x.X || !ok {
				t.Fatalf("%s: Get(%q): %d, %v, wanted %d", what, x.Key, n, ok, x.X)
			}
		}
	})
}

// missing: keys aren't there, and can't be dropped, which changes nothing.
func missing(t *testing.T, k Keys, names ...string) {
	t.Helper()
	same(t, k.Arena, "what is refused", func() {
		t.Helper()
		for _, name := range names {
			if n, ok := k.Get(name); n != 0 || ok {
				t.Fatalf("Get(%q): %d, %v", name, n, ok)
			}
			is(t, "Drop of "+strconv.Quote(name), k.Drop(name), api.ErrNone)
		}
	})
}

// refused: Set, and Put of one item, are, and change nothing.
func refused(t *testing.T, k Keys, name string, wanted api.Errno) {
	t.Helper()
	same(t, k.Arena, "what is refused", func() {
		t.Helper()
		is(t, "Set", k.Set(name, 77), wanted)
		is(t, "Put", k.Put(Item{name, 77}), wanted)
	})
}

// refusedAll: Put is, and changes nothing, of what is handed in neither.
func refusedAll(t *testing.T, k Keys, wanted api.Errno, items ...Item) {
	t.Helper()
	handed := slices.Clone(items)
	same(t, k.Arena, "Put", func() {
		t.Helper()
		is(t, "Put", k.Put(items...), wanted)
	})
	if !slices.Equal(items, handed) {
		t.Fatalf("the items are %v, they were %v", items, handed)
	}
}

func TestExample(t *testing.T) {
	k := room(t, 4)
	is(t, "Set", k.Set("a", 1), api.OK)
	is(t, "Set", k.Set("b", 2), api.OK)
	is(t, "Set", k.Set("a", 3), api.OK)
	tells(t, "the example", k, Item{"a", 3}, Item{"b", 2})
}

// P22.1

func TestOpen(t *testing.T) {
	a := pages(t, 2)
	for _, at := range []int{0, 1, 4000, 4090, 8192 - 200} {
		for size := range 201 {
			k := keys(t, a, at, size)
			if k.At() != at || k.Size() != size || k.Arena != a || k.Cap() != 2 {
				t.Fatalf("the keys of %d bytes aren't those of their view", size)
			}
			tells(t, "of noughts", k)
			missing(t, k, "", "a", "\x00", sixteen, seventeen)
			refused(t, k, "", api.ErrEmpty)
			refused(t, k, seventeen, api.ErrLong)
			if size < 32 {
				refused(t, k, "a", api.ErrFull)
			}
		}
	}
}

func TestSetInOrder(t *testing.T) {
	for n := range len(odd) + 1 {
		k := room(t, n)
		for i := range n {
			missing(t, k, odd[i:]...)
			is(t, "Set", k.Set(odd[i], uint64(i+1)), api.OK)
			tells(t, "set", k, numbered(odd[:i+1]...)...)
		}
		missing(t, k, append(odd[n:], "", "z")...)
		refused(t, k, "z", api.ErrFull)
	}
}

func TestTheKeysOfANode(t *testing.T) {
	k := keys(t, pages(t, 1), 0, 128)
	for i := range api.MaxKeys {
		is(t, "Set", k.Set(sixteen[i:], 1), api.OK)
	}
	refused(t, k, "z", api.ErrFull)
}

func TestSetAgainWhereItStands(t *testing.T) {
	for i, name := range odd {
		for _, n := range []int{len(odd), len(odd) + 1} {
			k := filled(t, n, odd...)
			wanted := numbered(odd...)
			for _, x := range []uint64{0, 1, 255, 256, 1 << 32, 1 << 63, math.MaxUint64} {
				is(t, "Set", k.Set(name, x), api.OK)
				wanted[i].X = x
				tells(t, "set again", k, wanted...)
				is(t, "Put", k.Put(Item{name, ^x}), api.OK)
				wanted[i].X = ^x
				tells(t, "put again", k, wanted...)
			}
		}
	}
}

func TestAllLengthsAndNumbers(t *testing.T) {
	k := room(t, 2)
	is(t, "Set", k.Set("first", 5), api.OK)
	for n := 1; n <= 16; n++ {
		for bit := range 64 {
			name := strings.Repeat("k", n)
			is(t, "Set", k.Set(name, 1<<bit), api.OK)
			tells(t, "set", k, Item{"first", 5}, Item{name, 1 << bit})
			missing(t, k, name+"k", name[:n-1], name[:n-1]+"l")
		}
		is(t, "Drop", k.Drop(strings.Repeat("k", n)), api.OK)
	}
}

func TestSetRefuses(t *testing.T) {
	k := filled(t, 3, "a", sixteen)
	for range 2 {
		refused(t, k, "", api.ErrEmpty)
		for _, name := range long {
			refused(t, k, name, api.ErrLong)
		}
		// Of full ones the errors that are named ahead of it are the answers yet.
		k.Set("c", 3)
	}
	refused(t, k, "d", api.ErrFull)
	refused(t, k, "aa", api.ErrFull)
	refused(t, k, sixteen[:15], api.ErrFull)
	tells(t, "refused", k, numbered("a", sixteen, "c")...)
	missing(t, k, append(long, "", "d")...)
}

func TestDropKeepsTheOrder(t *testing.T) {
	for i, name := range odd {
		for _, n := range []int{len(odd), len(odd) + 2} {
			k := filled(t, n, odd...)
			is(t, "Drop", k.Drop(name), api.OK)
			left := slices.Delete(numbered(odd...), i, i+1)
			tells(t, "dropped", k, left...)
			missing(t, k, name)
			is(t, "Set", k.Set(name, 99), api.OK)
			tells(t, "set again", k, append(left, Item{name, 99})...)
		}
	}
}

func TestDropAll(t *testing.T) {
	for _, order := range [][]string{{"a", "b", "c"}, {"c", "b", "a"}, {"b", "a", "c"}, {"b", "c", "a"}} {
		k := filled(t, 3, "a", "b", "c")
		left := numbered("a", "b", "c")
		for _, name := range order {
			is(t, "Drop", k.Drop(name), api.OK)
			left = slices.DeleteFunc(left, func(x Item) bool { return x.Key == name })
			tells(t, "dropped", k, left...)
		}
		missing(t, k, order...)
		is(t, "Put", k.Put(numbered("x", "y", "z")...), api.OK)
		tells(t, "set anew", k, numbered("x", "y", "z")...)
	}
}

// A shorter key leaves nothing of the longer one that stood there.
func TestAShorterKeyInTheSamePlace(t *testing.T) {
	k := room(t, 1)
	for n := 16; n > 0; n-- {
		name := strings.Repeat("\xff", n)
		is(t, "Set", k.Set(name, math.MaxUint64), api.OK)
		tells(t, "set", k, Item{name, math.MaxUint64})
		is(t, "Drop", k.Drop(name), api.OK)
		tells(t, "dropped", k)
	}
	is(t, "Set", k.Set("a", 0), api.OK)
	tells(t, "set", k, Item{"a", 0})
}

func TestTheZeroKeys(t *testing.T) {
	for _, k := range []Keys{{}, Open(view.View{})} {
		if len(k.All()) != 0 {
			t.Errorf("it has %v", k.All())
		}
		is(t, "Put", k.Put(), api.ErrNil)
		is(t, "Put", k.Put(Item{}, Item{"a", 1}), api.ErrNil)
		for _, name := range append(append(long, odd...), "") {
			if n, ok := k.Get(name); n != 0 || ok {
				t.Errorf("Get(%q): %d, %v", name, n, ok)
			}
			is(t, "Set", k.Set(name, 1), api.ErrNil)
			is(t, "Drop", k.Drop(name), api.ErrNil)
			is(t, "Put", k.Put(Item{name, 1}), api.ErrNil)
		}
	}
}

// P22.2

func TestPut(t *testing.T) {
	k := room(t, 4)
	refusedAll(t, k, api.OK)
	is(t, "Put", k.Put(Item{"a", 1}, Item{"b", 2}), api.OK)
	tells(t, "put", k, numbered("a", "b")...)
	is(t, "Put", k.Put(Item{"c", 3}, Item{"a", 4}, Item{"d", 5}, Item{"b", 6}), api.OK)
	tells(t, "put", k, Item{"a", 4}, Item{"b", 6}, Item{"c", 3}, Item{"d", 5})
	is(t, "Put", k.Put(Item{"d", 1}, Item{"a", 1}, Item{"a", 2}, Item{"d", 3}, Item{"a", 7}), api.OK)
	tells(t, "put", k, Item{"a", 7}, Item{"b", 6}, Item{"c", 3}, Item{"d", 3})
	refusedAll(t, k, api.OK)
}

// One key that comes some times takes one place.
func TestPutOfOneKeySomeTimes(t *testing.T) {
	k := room(t, 2)
	is(t, "Put", k.Put(Item{"b", 1}, Item{"a", 2}, Item{"b", 3}, Item{"a", 4}, Item{"b", 5}), api.OK)
	tells(t, "put", k, Item{"b", 5}, Item{"a", 4})
	refusedAll(t, k, api.ErrFull, Item{"b", 6}, Item{"c", 7}, Item{"b", 8})
	one := room(t, 1)
	is(t, "Put", one.Put(Item{"x", 1}, Item{"x", 2}, Item{"x", 0}), api.OK)
	tells(t, "put", one, Item{"x", 0})
}

func TestPutOfWhatIsHandedIn(t *testing.T) {
	k := room(t, 4)
	backing := append(numbered("a", "b", "a"), Item{"spare", 9})
	items := backing[:3]
	is(t, "Put", k.Put(items...), api.OK)
	if !slices.Equal(backing, append(numbered("a", "b", "a"), Item{"spare", 9})) {
		t.Errorf("the items are %v", backing)
	}
	items[0] = Item{"z", 100}
	tells(t, "put", k, Item{"a", 3}, Item{"b", 2})
}

func TestPutRefusesAll(t *testing.T) {
	k := filled(t, 4, "a", "b")
	good := []Item{{"a", 9}, {"c", 3}, {"b", 8}, {"d", 4}}
	for i := range len(good) + 1 {
		with := func(x Item) []Item { return slices.Insert(slices.Clone(good), i, x) }
		refusedAll(t, k, api.ErrEmpty, with(Item{"", 1})...)
		for _, name := range long {
			refusedAll(t, k, api.ErrLong, with(Item{name, 1})...)
		}
		refusedAll(t, k, api.ErrFull, with(Item{"e", 1})...)
	}
	tells(t, "refused", k, numbered("a", "b")...)
	is(t, "Put", k.Put(good...), api.OK)
	tells(t, "put", k, Item{"a", 9}, Item{"b", 8}, Item{"c", 3}, Item{"d", 4})
}

// The first that can't be set has the error, whatever comes behind it.
func TestPutTellsTheFirstError(t *testing.T) {
	k := filled(t, 2, "a")
	empty, tooLong, more := Item{"", 1}, Item{seventeen, 1}, Item{"c", 1}
	refusedAll(t, k, api.ErrEmpty, empty, tooLong)
	refusedAll(t, k, api.ErrLong, tooLong, empty)
	refusedAll(t, k, api.ErrFull, Item{"b", 1}, more, empty, tooLong)
	refusedAll(t, k, api.ErrEmpty, Item{"b", 1}, empty, more)
	refusedAll(t, k, api.ErrLong, Item{"b", 1}, tooLong, more, empty)
	refusedAll(t, k, api.ErrFull, Item{"b", 1}, Item{"a", 1}, Item{"b", 2}, more)
	none := room(t, 0)
	refusedAll(t, none, api.OK)
	refusedAll(t, none, api.ErrFull, more, empty)
	refusedAll(t, none, api.ErrEmpty, empty, more)
	tells(t, "refused", k, numbered("a")...)
}

// P22.3

func TestWhatWasSetLastIsTold(t *testing.T) {
	k := filled(t, 3, "a", "b")
	is(t, "Set", k.Set("b", 7), api.OK)
	is(t, "Drop", k.Drop("a"), api.OK)
	is(t, "Put", k.Put(Item{"c", 1}, Item{"b", 8}, Item{"a", 2}), api.OK)
	is(t, "Set", k.Set("c", 0), api.OK)
	refused(t, k, "d", api.ErrFull)
	tells(t, "set", k, Item{"b", 8}, Item{"c", 0}, Item{"a", 2})
}

func TestTheKeysAreInTheArenaAlone(t *testing.T) {
	a := pages(t, 2)
	k, again := keys(t, a, 4000, 160), keys(t, a, 4000, 160)
	is(t, "Set", k.Set("a", 1), api.OK)
	is(t, "Set", again.Set(sixteen, 2), api.OK)
	is(t, "Set", k.Set("c", 3), api.OK)
	is(t, "Drop", again.Drop("a"), api.OK)
	twin := keys(t, a.Clone(), 4000, 160)
	is(t, "Set", k.Set(sixteen, 4), api.OK)
	is(t, "Drop", twin.Drop("c"), api.OK)
	for _, x := range []Keys{k, again, keys(t, a, 4000, 160), keys(t, a, 4000, 191)} {
		tells(t, "here", x, Item{sixteen, 4}, Item{"c", 3})
	}
	tells(t, "over a clone", twin, Item{sixteen, 2})
}

func TestOnlySlotsAreStoredIn(t *testing.T) {
	for _, spare := range []int{0, 1, 31} {
		a := pages(t, 2)
		is(t, "Fill", a.Fill(0, 2*api.Page, 'x'), api.OK)
		is(t, "Fill", a.Fill(4000, 32*5, 0), api.OK)
		k := keys(t, a, 4000, 32*5+spare)
		for i := range 5 {
			is(t, "Set", k.Set(strings.Repeat("\xff", 12+i), math.MaxUint64), api.OK)
		}
		refused(t, k, "z", api.ErrFull)
		refusedAll(t, k, api.ErrFull, Item{strings.Repeat("\xff", 13), 0}, Item{"z", 1})
		is(t, "Drop", k.Drop(strings.Repeat("\xff", 12)), api.OK)
		is(t, "Drop", k.Drop(strings.Repeat("\xff", 16)), api.OK)
		for at, b := range []byte(whole(t, a)) {
			if mine := at >= 4000 && at < 4000+32*5; !mine && b != 'x' {
				t.Fatalf("the byte %d is %d", at, b)
			}
		}
	}
}

func TestAllIsNewMemory(t *testing.T) {
	k := filled(t, 3, "a", "b")
	one, two := k.All(), k.All()
	one[0], one[1] = Item{}, Item{}
	if !slices.Equal(two, numbered("a", "b")) {
		t.Errorf("another answer is %v", two)
	}
	tells(t, "behind it", k, two...)
}

func TestMany(t *testing.T) {
	k := keys(t, pages(t, 4), 100, 3*api.Page)
	const n = 3 * api.Page / 32
	var items []Item
	for i := range n {
		items = append(items, Item{"key" + strconv.Itoa(i), uint64(i) << 40})
	}
	refusedAll(t, k, api.ErrFull, append(slices.Clone(items), Item{"z", 1})...)
	is(t, "Put", k.Put(items...), api.OK)
	tells(t, "put", k, items...)
	is(t, "Drop", k.Drop("key0"), api.OK)
	is(t, "Drop", k.Drop("key"+strconv.Itoa(n/2)), api.OK)
	items = slices.Delete(slices.Delete(items, n/2, n/2+1), 0, 1)
	tells(t, "dropped", k, items...)
}

// There are no keys in slots whose bytes aren't there any more, nor may there be.
func TestSlotsThatAreNotThereAnyMore(t *testing.T) {
	names := []string{"a", "b", "c", "d"}
	for _, first := range []int{0, 17, 31, 32, 63, 64, 80} { // so many bytes are up to the page's end
		a := pages(t, 2)
		k := keys(t, a, api.Page-first, 5*32)
		is(t, "Put", k.Put(numbered(names...)...), api.OK)
		is(t, "Decommit", a.Decommit(1, 1), api.OK)
		there := first / 32
		tells(t, "not there", k, numbered(names[:there]...)...)
		missing(t, k, names[there:]...)
		refused(t, k, "e", api.ErrFull)
		for _, name := range names[:there] {
			is(t, "Drop", k.Drop(name), api.OK)
		}
		tells(t, "dropped", k)
		is(t, "Put", k.Put(numbered(names[:there]...)...), api.OK)
		refused(t, k, "e", api.ErrFull)
	}
}

// Nothing is promised of what is told then, but that each call ends.
func TestEachCallEndsWhateverStandsThere(t *testing.T) {
	for _, x := range []uint64{1, 16, 17, 255, math.MaxUint64, 0x0101010101010101, 0x1010101010101010} {
		for _, size := range []int{1, 32, 100, 2 * api.Page} {
			a := pages(t, 2)
			for at := 0; at < 2*api.Page; at += 8 {
				is(t, "Store", a.Store(at, 8, x), api.OK)
			}
			k := keys(t, a, 0, size)
			for range 3 {
				k.All()
				k.Get("\x01")
				k.Set("a", 1)
				k.Put(numbered("b", "c")...)
				k.Drop("\x00")
				k.Drop("b")
			}
		}
	}
}

// play is keys, and what they should be; the numbers of a step follow from the one's ahead.
type play struct {
	t   *testing.T
	k   Keys
	n   int
	all []Item
	x   int
}

func (p *play) number(below int) int {
	p.x = (p.x*1103515245 + 12345) % (1 << 31)
	return p.x / 64 % below
}

// item: some item; few of the keys may not be.
func (p *play) item() Item {
	x := Item{strings.Repeat(string(rune('a'+p.number(3))), 1+p.number(p.n)%16), uint64(p.x) << 33}
	switch p.number(30) {
	case 0:
		x.Key = ""
	case 1:
		x.Key = seventeen
	}
	return x
}

// set: the items, with one more, or one of another number; a new list, as a later item may be refused.
func (p *play) set(all []Item, x Item) ([]Item, api.Errno) {
	i := slices.IndexFunc(all, func(y Item) bool { return y.Key == x.Key })
	switch {
	case x.Key == "":
		return nil, api.ErrEmpty
	case len(x.Key) > 16:
		return nil, api.ErrLong
	case i >= 0:
		return slices.Replace(slices.Clone(all), i, i+1, x), api.OK
	case len(all) == p.n:
		return nil, api.ErrFull
	}
	return append(slices.Clone(all), x), api.OK
}

// put: some items, all or none.
func (p *play) put() {
	items := make([]Item, p.number(5))
	all, wanted := p.all, api.OK
	for i := range items {
		items[i] = p.item()
		if wanted == api.OK {
			all, wanted = p.set(all, items[i])
		}
	}
	if wanted != api.OK {
		refusedAll(p.t, p.k, wanted, items...)
		return
	}
	is(p.t, "Put", p.k.Put(items...), api.OK)
	p.all = all
}

func (p *play) one() {
	x := p.item()
	all, wanted := p.set(p.all, x)
	is(p.t, "Set", p.k.Set(x.Key, x.X), wanted)
	if wanted == api.OK {
		p.all = all
	}
}

func (p *play) drop() {
	name := p.item().Key
	i := slices.IndexFunc(p.all, func(y Item) bool { return y.Key == name })
	if i < 0 {
		missing(p.t, p.k, name)
		return
	}
	is(p.t, "Drop", p.k.Drop(name), api.OK)
	p.all = slices.Delete(slices.Clone(p.all), i, i+1)
}

func TestAsTheChapterSays(t *testing.T) {
	for _, n := range []int{1, 2, 4, 9, 30} {
		p := &play{t: t, k: keys(t, pages(t, 2), 4000, 32*n+n), n: n, x: n}
		for range 2000 {
			switch k := p.number(10); {
			case k < 3:
				p.one()
			case k < 5:
				p.put()
			case k < 9:
				p.drop()
			default:
				p.k = keys(t, p.k.Clone(), p.k.At(), p.k.Size())
			}
			tells(t, "a step", p.k, p.all...)
		}
	}
}
