package refs

import (
	"math"
	"slices"
	"strings"
	"testing"

	"millpond/api"
	"millpond/arena"
	"millpond/view"
)

// far: numbers that are much.
var far = []uint64{255, 256, 65535, 1 << 31, 1<<32 - 1, 1 << 32, 1 << 48, 1<<56 + 1, 1<<63 - 1, 1 << 63, math.MaxUint64 - 1, math.MaxUint64}

// is: a test ends, if an error is another one than was wanted.
func is(t *testing.T, what string, got, wanted api.Errno) {
	t.Helper()
	if got != wanted {
		t.Fatalf("%s: error %d, wanted %d", what, got, wanted)
	}
}

// pages: an arena, whose pages are all committed.
func pages(t *testing.T, cap int) *arena.Arena {
	t.Helper()
	a := arena.New(cap)
	is(t, "Commit", a.Commit(0, cap), api.OK)
	return a
}

// links: those of a view.
func links(t *testing.T, a *arena.Arena, at, size int) Links {
	t.Helper()
	v, e := view.Of(a, at, size)
	is(t, "view.Of", e, api.OK)
	return Open(v)
}

// room: new links, so many at most.
func room(t *testing.T, n int) Links {
	t.Helper()
	return links(t, pages(t, 2), 8, 16*n)
}

// filled: links, so many at most, some of which are added.
func filled(t *testing.T, n int, all ...Link) Links {
	t.Helper()
	l := room(t, n)
	for _, x := range all {
		is(t, "Add", l.Add(x), api.OK)
	}
	return l
}

// row: links of some, with the serials 1, 2 and so on.
func row(whos ...uint64) []Link {
	var all []Link
	for i, who := range whos {
		all = append(all, Link{who, uint64(i + 1)})
	}
	return all
}

// whole: all bytes that are committed.
func whole(t *testing.T, a *arena.Arena) string {
	t.Helper()
	var all strings.Builder
	for first, n := range a.Pages().Rows() {
		s, e := a.Bytes(first*api.Page, n*api.Page)
		is(t, "Bytes", e, api.OK)
		all.WriteString(s)
	}
	return all.String()
}

// unchanged: a call changes nothing.
func unchanged(t *testing.T, a *arena.Arena, what string, call func()) {
	t.Helper()
	before := whole(t, a)
	call()
	if whole(t, a) != before {
		t.Fatalf("%s changes something", what)
	}
}

// tells: are just these there? To ask changes nothing.
func tells(t *testing.T, what string, l Links, wanted ...Link) {
	t.Helper()
	unchanged(t, l.Arena, "to ask", func() {
		t.Helper()
		if all := l.All(); !slices.Equal(all, wanted) {
			t.Fatalf("%s: it has %v, wanted %v", what, all, wanted)
		}
		for _, x := range wanted {
			if !l.Has(x.Who) {
				t.Fatalf("%s: it hasn't %d", what, x.Who)
			}
		}
	})
}

// missing: links of some aren't there, and can't be dropped, which changes nothing.
func missing(t *testing.T, l Links, whos ...uint64) {
	t.Helper()
	unchanged(t, l.Arena, "what is refused", func() {
		t.Helper()
		for _, who := range whos {
			if l.Has(who) {
				t.Fatalf("it has %d", who)
			}
			is(t, "Drop", l.Drop(who), api.ErrNone)
		}
	})
}

// refused: Add is, and changes nothing.
func refused(t *testing.T, l Links, x Link, wanted api.Errno) {
	t.Helper()
	unchanged(t, l.Arena, "Add", func() {
		t.Helper()
		is(t, "Add", l.Add(x), wanted)
	})
}

// refusedNoughts: Add of a who, or a serial, of 0 is, whatever the other number is.
func refusedNoughts(t *testing.T, l Links) {
	t.Helper()
	for _, x := range append(slices.Clone(far), 0, 1) {
		refused(t, l, Link{0, x}, api.ErrArg)
		refused(t, l, Link{x, 0}, api.ErrArg)
	}
}

// orders: all orders in which some links may come.
func orders(all []Link) [][]Link {
	if len(all) < 2 {
		return [][]Link{all}
	}
	var found [][]Link
	for i, x := range all {
		for _, others := range orders(slices.Delete(slices.Clone(all), i, i+1)) {
			found = append(found, append([]Link{x}, others...))
		}
	}
	return found
}

// P23.1

func TestOpen(t *testing.T) {
	a := pages(t, 2)
	for _, at := range []int{0, 1, 4000, 4090, 8192 - 140} {
		for size := range 141 {
			l := links(t, a, at, size)
			if l.At() != at || l.Size() != size || l.Arena != a || l.Cap() != 2 {
				t.Fatalf("the links of %d bytes aren't those of their view", size)
			}
			tells(t, "of noughts", l)
			missing(t, l, append(slices.Clone(far), 0, 1)...)
			refusedNoughts(t, l)
			if size < 16 {
				refused(t, l, Link{1, 1}, api.ErrFull)
			}
		}
	}
}

func TestAddByRisingSerials(t *testing.T) {
	whole := []Link{{9, 1}, {3, 2}, {7, 300}, {1, 1 << 40}, {5, math.MaxUint64}}
	for _, all := range orders(whole) {
		l := room(t, 5)
		for i, x := range all {
			is(t, "Add", l.Add(x), api.OK)
			so := slices.Clone(all[:i+1])
			slices.SortFunc(so, func(x, y Link) int { return slices.Index(whole, x) - slices.Index(whole, y) })
			tells(t, "added", l, so...)
		}
		refused(t, l, Link{77, 2}, api.ErrFull)
	}
}

func TestOfOneSerialInTheOrderInWhichTheyCame(t *testing.T) {
	for _, all := range orders([]Link{{9, 5}, {3, 5}, {7, 5}, {1, 5}}) {
		l := filled(t, 7, all...)
		tells(t, "added", l, all...)
		is(t, "Add", l.Add(Link{20, 6}), api.OK)
		is(t, "Add", l.Add(Link{30, 4}), api.OK)
		tells(t, "added", l, Link{30, 4}, all[0], all[1], all[2], all[3], Link{20, 6})
		is(t, "Add", l.Add(Link{2, 5}), api.OK)
		tells(t, "added", l, Link{30, 4}, all[0], all[1], all[2], all[3], Link{2, 5}, Link{20, 6})
		is(t, "Drop", l.Drop(all[1].Who), api.OK)
		is(t, "Add", l.Add(all[1]), api.OK)
		tells(t, "added again", l, Link{30, 4}, all[0], all[2], all[3], Link{2, 5}, all[1], Link{20, 6})
	}
}

func TestAllNumbersThatMayBe(t *testing.T) {
	l := room(t, 1)
	tried := []Link{{1, 1}, {1, math.MaxUint64}, {math.MaxUint64, 1}, {math.MaxUint64, math.MaxUint64}}
	for i := range 64 {
		tried = append(tried, Link{1 << i, 1 << (63 - i)}, Link{1 << i, 1}, Link{1, 1 << i})
	}
	for _, x := range tried {
		is(t, "Add", l.Add(x), api.OK)
		tells(t, "added", l, x)
		missing(t, l, 0, x.Who^1<<63, x.Who^1<<32, x.Who^2)
		is(t, "Drop", l.Drop(x.Who), api.OK)
		tells(t, "dropped", l)
	}
}

func TestAddRefuses(t *testing.T) {
	l := filled(t, 4, Link{10, 2}, Link{20, 4}, Link{math.MaxUint64, 6})
	there := func() {
		t.Helper()
		refusedNoughts(t, l)
		for _, x := range l.All() {
			for _, serial := range []uint64{1, 2, 3, 4, 5, 6, 7, math.MaxUint64} {
				refused(t, l, Link{x.Who, serial}, api.ErrThere)
			}
			refused(t, l, Link{x.Who, 0}, api.ErrArg)
		}
	}
	there()
	is(t, "Add", l.Add(Link{11, 5}), api.OK)
	// Of full ones the errors that are named ahead of it are the answers yet.
	there()
	for _, serial := range []uint64{1, 2, 3, 7, math.MaxUint64} {
		refused(t, l, Link{12, serial}, api.ErrFull)
	}
	tells(t, "refused", l, Link{10, 2}, Link{20, 4}, Link{11, 5}, Link{math.MaxUint64, 6})
}

func TestTheLinksOfANodeAreEight(t *testing.T) {
	l := links(t, pages(t, 1), 0, 128)
	for i := range uint64(api.MaxRefs) {
		is(t, "Add", l.Add(Link{i + 1, 1}), api.OK)
	}
	refused(t, l, Link{9, 1}, api.ErrFull)
}

func TestDropKeepsTheOrder(t *testing.T) {
	all := row(7, 3, 9, 1, 5)
	for i, x := range all {
		for _, n := range []int{5, 6, 9} {
			l := filled(t, n, all...)
			is(t, "Drop", l.Drop(x.Who), api.OK)
			tells(t, "dropped", l, slices.Delete(slices.Clone(all), i, i+1)...)
			missing(t, l, x.Who)
			is(t, "Add", l.Add(x), api.OK)
			tells(t, "added again", l, all...)
		}
	}
}

func TestDropAll(t *testing.T) {
	for _, order := range orders(row(1, 2, 3, 4)) {
		l := filled(t, 4, row(1, 2, 3, 4)...)
		left := row(1, 2, 3, 4)
		for _, x := range order {
			is(t, "Drop", l.Drop(x.Who), api.OK)
			left = slices.DeleteFunc(left, func(y Link) bool { return x == y })
			tells(t, "dropped", l, left...)
		}
		missing(t, l, 0, 1, 2, 3, 4)
		is(t, "Add", l.Add(Link{8, 1}), api.OK)
		tells(t, "added anew", l, Link{8, 1})
	}
}

func TestDropOfNone(t *testing.T) {
	for _, all := range [][]Link{nil, row(5), row(5, 6), row(5, 1<<63, 7, 8)} {
		l := filled(t, 4, all...)
		missing(t, l, 0, 1, 2, 3, 4, 9, 5+1<<32, 1<<62, math.MaxUint64)
		tells(t, "behind it", l, all...)
	}
}

func TestTheZeroLinks(t *testing.T) {
	for _, l := range []Links{{}, Open(view.View{})} {
		if len(l.All()) != 0 {
			t.Errorf("it has %v", l.All())
		}
		for _, x := range append(slices.Clone(far), 0, 1) {
			if l.Has(x) {
				t.Errorf("it has %d", x)
			}
			is(t, "Add", l.Add(Link{x, 1}), api.ErrNil)
			is(t, "Add", l.Add(Link{1, x}), api.ErrNil)
			is(t, "Drop", l.Drop(x), api.ErrNil)
		}
	}
}

func TestTheLinksAreInTheArenaAlone(t *testing.T) {
	a := pages(t, 2)
	l, again := links(t, a, 4000, 112), links(t, a, 4000, 112)
	is(t, "Add", l.Add(Link{1, 5}), api.OK)
	is(t, "Add", again.Add(Link{2, 3}), api.OK)
	is(t, "Add", l.Add(Link{3, 4}), api.OK)
	is(t, "Drop", again.Drop(1), api.OK)
	twin := links(t, a.Clone(), 4000, 112)
	is(t, "Add", l.Add(Link{4, 1}), api.OK)
	is(t, "Drop", twin.Drop(3), api.OK)
	for _, x := range []Links{l, again, links(t, a, 4000, 112), links(t, a, 4000, 127)} {
		tells(t, "here", x, Link{4, 1}, Link{2, 3}, Link{3, 4})
	}
	tells(t, "over a clone", twin, Link{2, 3})
}

func TestOnlySlotsAreStoredIn(t *testing.T) {
	for _, spare := range []int{0, 1, 15} {
		a := pages(t, 2)
		is(t, "Fill", a.Fill(0, 2*api.Page, 'x'), api.OK)
		is(t, "Fill", a.Fill(4050, 16*5, 0), api.OK)
		l := links(t, a, 4050, 16*5+spare)
		for i := range uint64(5) {
			is(t, "Add", l.Add(Link{math.MaxUint64 - i, math.MaxUint64 - i}), api.OK)
		}
		refused(t, l, Link{1, 1}, api.ErrFull)
		is(t, "Drop", l.Drop(math.MaxUint64), api.OK)
		is(t, "Drop", l.Drop(math.MaxUint64-4), api.OK)
		for at, b := range []byte(whole(t, a)) {
			if mine := at >= 4050 && at < 4050+16*5; !mine && b != 'x' {
				t.Fatalf("the byte %d is %d", at, b)
			}
		}
	}
}

func TestAllIsNewMemory(t *testing.T) {
	l := filled(t, 3, row(5, 6)...)
	one, two := l.All(), l.All()
	one[0], one[1] = Link{}, Link{}
	if !slices.Equal(two, row(5, 6)) {
		t.Errorf("another answer is %v", two)
	}
	tells(t, "behind it", l, two...)
}

func TestMany(t *testing.T) {
	const n = 2 * api.Page / 16
	l := links(t, pages(t, 3), 100, 2*api.Page)
	for i := range uint64(n) {
		is(t, "Add", l.Add(Link{i + 1, n - i}), api.OK)
	}
	refused(t, l, Link{n + 1, 1}, api.ErrFull)
	is(t, "Drop", l.Drop(n/2), api.OK)
	is(t, "Add", l.Add(Link{n + 1, n / 2}), api.OK)
	// It stands behind the one of its serial that is there yet.
	var wanted []Link
	for serial := uint64(1); serial <= n; serial++ {
		if who := n - serial + 1; who != n/2 {
			wanted = append(wanted, Link{who, serial})
		}
		if serial == n/2 {
			wanted = append(wanted, Link{n + 1, n / 2})
		}
	}
	tells(t, "added", l, wanted...)
}

// There are no links in slots whose bytes aren't there any more, nor may there be.
func TestSlotsThatAreNotThereAnyMore(t *testing.T) {
	all := row(5, 3, 8, 1)
	for _, first := range []int{0, 7, 15, 16, 31, 32, 40} { // so many bytes are up to the page's end
		a := pages(t, 2)
		l := links(t, a, api.Page-first, 5*16)
		for _, x := range all {
			is(t, "Add", l.Add(x), api.OK)
		}
		is(t, "Decommit", a.Decommit(1, 1), api.OK)
		there := first / 16
		tells(t, "not there", l, all[:there]...)
		for _, x := range all[there:] {
			missing(t, l, x.Who)
		}
		refused(t, l, Link{9, 1}, api.ErrFull)
		for _, x := range all[:there] {
			is(t, "Drop", l.Drop(x.Who), api.OK)
		}
		tells(t, "dropped", l)
		for _, x := range all[:there] {
			is(t, "Add", l.Add(x), api.OK)
		}
		refused(t, l, Link{9, 1}, api.ErrFull)
		tells(t, "added again", l, all[:there]...)
	}
}

// Nothing is promised of what is told then, but that each call ends.
func TestEachCallEndsWhateverStandsThere(t *testing.T) {
	for _, x := range []uint64{1, 255, math.MaxUint64, 0x0101010101010101} {
		for _, size := range []int{1, 16, 100, 2 * api.Page} {
			a := pages(t, 2)
			for at := 0; at < 2*api.Page; at += 8 {
				is(t, "Store", a.Store(at, 8, x), api.OK)
			}
			l := links(t, a, 0, size)
			for range 3 {
				l.All()
				l.Has(1)
				l.Add(Link{2, 2})
				l.Drop(x)
				l.Drop(0)
			}
		}
	}
}

// play is links, and what they should be; the numbers of a step follow from the one's ahead.
type play struct {
	t   *testing.T
	l   Links
	n   int
	all []Link
	x   int
}

func (p *play) number(below int) int {
	p.x = (p.x*1103515245 + 12345) % (1 << 31)
	return p.x / 64 % below
}

func (p *play) find(who uint64) int {
	return slices.IndexFunc(p.all, func(x Link) bool { return x.Who == who })
}

func (p *play) add() {
	x := Link{uint64(p.number(2*p.n + 2)), uint64(p.number(p.n + 2))}
	switch {
	case x.Who == 0 || x.Serial == 0:
		refused(p.t, p.l, x, api.ErrArg)
	case p.find(x.Who) >= 0:
		refused(p.t, p.l, x, api.ErrThere)
	case len(p.all) == p.n:
		refused(p.t, p.l, x, api.ErrFull)
	default:
		is(p.t, "Add", p.l.Add(x), api.OK)
		p.all = append(p.all, x)
		slices.SortStableFunc(p.all, func(x, y Link) int { return int(x.Serial) - int(y.Serial) })
	}
}

func (p *play) drop() {
	who := uint64(p.number(2*p.n + 2))
	i := p.find(who)
	if i < 0 {
		missing(p.t, p.l, who)
		return
	}
	is(p.t, "Drop", p.l.Drop(who), api.OK)
	p.all = slices.Delete(p.all, i, i+1)
}

func TestLinksAreAsTheChapterSays(t *testing.T) {
	for _, n := range []int{1, 2, 8, 30} {
		p := &play{t: t, l: links(t, pages(t, 2), 4000, 16*n+n%16), n: n, x: n}
		for range 2000 {
			switch k := p.number(10); {
			case k < 5:
				p.add()
			case k < 9:
				p.drop()
			default:
				p.l = links(t, p.l.Clone(), p.l.At(), p.l.Size())
			}
			tells(t, "a step", p.l, p.all...)
		}
	}
}
