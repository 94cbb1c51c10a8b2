package clean

import (
	"math"
	"slices"
	"strings"
	"testing"

	"millpond/api"
	"millpond/arena"
	"millpond/view"
)

// last: the greatest ID that may be, by the chapter.
const last = 1<<48 - 1

// bad: numbers that are no ID; some of them have the lowest bytes of one.
var bad = []uint64{0, last + 1, last + 2, 1 << 49, 1<<56 + 1, 1<<63 + 2, math.MaxUint64 - 1, math.MaxUint64}

// is: a test ends, if an error is another one than was wanted.
func is(t *testing.T, what string, got, wanted api.Errno) {
	t.Helper()
	if got != wanted {
		t.Fatalf("%s: error %d, wanted %d", what, got, wanted)
	}
}

// pages: an arena, whose pages are all committed.
func pages(t *testing.T, cap int) *arena.Arena {
	t.Helper()
	a := arena.New(cap)
	is(t, "Commit", a.Commit(0, cap), api.OK)
	return a
}

// list: that of a view.
func list(t *testing.T, a *arena.Arena, at, size int) List {
	t.Helper()
	v, e := view.Of(a, at, size)
	is(t, "view.Of", e, api.OK)
	return Open(v)
}

// room: a new list, for so many.
func room(t *testing.T, n int) List {
	t.Helper()
	return list(t, pages(t, 2), 8, 24*n)
}

// entry: one, of which all numbers hang on its ID.
func entry(id uint64) Entry {
	return Entry{ID: id, Kind: uint8(7*id + 1), Level: uint8(3 * id), Arg: id*0x9e3779b97f4a7c15 + 1}
}

// entries: those of some IDs.
func entries(ids ...uint64) []Entry {
	var all []Entry
	for _, id := range ids {
		all = append(all, entry(id))
	}
	return all
}

// filled: a list for so many, with the entries of some IDs.
func filled(t *testing.T, n int, ids ...uint64) List {
	t.Helper()
	l := room(t, n)
	for _, x := range entries(ids...) {
		is(t, "Add", l.Add(x), api.OK)
	}
	return l
}

// whole: all bytes that are committed.
func whole(t *testing.T, a *arena.Arena) string {
	t.Helper()
	var all strings.Builder
	for first, n := range a.Pages().Rows() {
		s, e := a.Bytes(first*api.Page, n*api.Page)
		is(t, "Bytes", e, api.OK)
		all.WriteString(s)
	}
	return all.String()
}

// same: a call changes nothing.
func same(t *testing.T, a *arena.Arena, what string, call func()) {
	t.Helper()
	before := whole(t, a)
	call()
	if whole(t, a) != before {
		t.Fatalf("%s changes something", what)
	}
}

// tells: has a list these entries, and room for so many more? To ask changes nothing.
func tells(t *testing.T, what string, l List, more int, wanted []Entry) {
	t.Helper()
	same(t, l.Arena, "to ask", func() {
		t.Helper()
		if all := l.All(); !slices.Equal(all, wanted) {
			t.Fatalf("%s: it has %v, wanted %v", what, all, wanted)
		}
		if n := l.Room(); n != more {
			t.Fatalf("%s: it has room for %d, wanted %d", what, n, more)
		}
	})
}

// refused: Add is, and changes nothing.
func refused(t *testing.T, l List, x Entry, wanted api.Errno) {
	t.Helper()
	same(t, l.Arena, "Add", func() {
		t.Helper()
		is(t, "Add", l.Add(x), wanted)
	})
}

// kill: the entry goes, and is told.
func kill(t *testing.T, l List, wanted Entry) {
	t.Helper()
	if x, e := l.Kill(wanted.ID); x != wanted || e != api.OK {
		t.Fatalf("Kill(%d): %v, error %d", wanted.ID, x, e)
	}
}

// missing: Kill finds no such entry, and changes nothing.
func missing(t *testing.T, l List, ids ...uint64) {
	t.Helper()
	same(t, l.Arena, "Kill", func() {
		t.Helper()
		for _, id := range ids {
			if x, e := l.Kill(id); x != (Entry{}) || e != api.ErrNone {
				t.Fatalf("Kill(%d): %v, error %d", id, x, e)
			}
		}
	})
}

// pop: the last one is that.
func pop(t *testing.T, l List, wanted Entry) {
	t.Helper()
	if x, ok := l.Pop(); x != wanted || !ok {
		t.Fatalf("Pop: %v, %v, wanted %v", x, ok, wanted)
	}
}

// empty: there is none to pop.
func empty(t *testing.T, l List) {
	t.Helper()
	same(t, l.Arena, "Pop", func() {
		t.Helper()
		if x, ok := l.Pop(); x != (Entry{}) || ok {
			t.Fatalf("Pop: %v, %v", x, ok)
		}
	})
}

func TestExample(t *testing.T) {
	l := filled(t, 8, 1, 2, 3)
	kill(t, l, entry(2))
	pop(t, l, entry(3))
	pop(t, l, entry(1))
	empty(t, l)
}

// P21.1

func TestOpenAndRoom(t *testing.T) {
	a := pages(t, 2)
	for _, at := range []int{0, 1, 4000, 4090, 8192 - 240} {
		for size := range 241 {
			l := list(t, a, at, size)
			if l.At() != at || l.Size() != size || l.Arena != a || l.Cap() != 2 {
				t.Fatalf("the list of %d bytes isn't that of its view", size)
			}
			tells(t, "of noughts", l, size/24, nil)
			empty(t, l)
			missing(t, l, append(bad, 1, last)...)
			for _, id := range bad {
				refused(t, l, entry(id), api.ErrArg)
			}
			if size < 24 {
				refused(t, l, entry(1), api.ErrFull)
			}
		}
	}
}

func TestTheListsOfANode(t *testing.T) {
	a := pages(t, 1)
	if n := list(t, a, 0, 192).Room(); n != api.MaxCleans {
		t.Errorf("of 192 bytes: room for %d", n)
	}
	if n := list(t, a, 0, 96).Room(); n != api.MaxPres {
		t.Errorf("of 96 bytes: room for %d", n)
	}
}

func TestAddInOrder(t *testing.T) {
	ids := []uint64{5, 1, last, 2, 256, 255, 65536, 1 << 40}
	for n := range len(ids) + 1 {
		l := room(t, n)
		for i := range n {
			is(t, "Add", l.Add(entry(ids[i])), api.OK)
			tells(t, "added", l, n-i-1, entries(ids[:i+1]...))
		}
		refused(t, l, entry(77), api.ErrFull)
	}
}

func TestAllNumbersThatMayBe(t *testing.T) {
	l := room(t, 1)
	tried := []Entry{{ID: 1}, {ID: last}, {ID: last - 1}, {1, 255, 255, math.MaxUint64}, {last, 255, 0, 0}, {last, 0, 255, 0}, {last, 0, 0, math.MaxUint64}, {last, 0, 0, 1 << 63}, {1, 1, 2, 3}}
	for i := range 48 {
		tried = append(tried, Entry{ID: 1 << i})
	}
	for i := range 64 {
		tried = append(tried, Entry{ID: 1, Arg: 1 << i})
	}
	for i := range 256 {
		tried = append(tried, Entry{9, uint8(i), uint8(255 - i), uint64(i)})
	}
	for i, x := range tried {
		is(t, "Add", l.Add(x), api.OK)
		tells(t, "added", l, 0, []Entry{x})
		if i%2 == 0 {
			pop(t, l, x)
		} else {
			kill(t, l, x)
		}
		tells(t, "gone", l, 1, nil)
	}
}

func TestAddRefuses(t *testing.T) {
	l := filled(t, 4, 10, last, 30)
	for _, id := range bad {
		refused(t, l, entry(id), api.ErrArg)
		refused(t, l, Entry{ID: id}, api.ErrArg)
	}
	there := func() {
		t.Helper()
		for _, id := range []uint64{10, last, 30} {
			refused(t, l, entry(id), api.ErrThere)
			refused(t, l, Entry{ID: id, Kind: 1, Arg: 5}, api.ErrThere)
		}
	}
	there()
	tells(t, "refused", l, 1, entries(10, last, 30))
	is(t, "Add", l.Add(entry(40)), api.OK)
	// Of a full one the errors that are named ahead of it are the answers yet.
	there()
	for _, id := range bad {
		refused(t, l, entry(id), api.ErrArg)
	}
	for _, id := range []uint64{1, 9, 11, 41, last - 1} {
		refused(t, l, entry(id), api.ErrFull)
	}
	tells(t, "refused", l, 0, entries(10, last, 30, 40))
}

// What differs in the ID alone is another entry; one that is alike but for the ID is, too.
func TestEntriesThatAreAlike(t *testing.T) {
	l := room(t, 3)
	for id := range uint64(3) {
		is(t, "Add", l.Add(Entry{id + 1, 4, 5, 6}), api.OK)
	}
	tells(t, "added", l, 0, []Entry{{1, 4, 5, 6}, {2, 4, 5, 6}, {3, 4, 5, 6}})
	kill(t, l, Entry{2, 4, 5, 6})
	tells(t, "killed", l, 1, []Entry{{1, 4, 5, 6}, {3, 4, 5, 6}})
}

// P21.2

func TestKillKeepsTheOrder(t *testing.T) {
	ids := []uint64{7, 3, 9, 1, 5}
	for i, id := range ids {
		for _, n := range []int{5, 6, 9} {
			l := filled(t, n, ids...)
			kill(t, l, entry(id))
			others := slices.Delete(slices.Clone(ids), i, i+1)
			tells(t, "killed", l, n-4, entries(others...))
			missing(t, l, id)
			is(t, "Add", l.Add(entry(id)), api.OK)
			tells(t, "added again", l, n-5, entries(append(others, id)...))
		}
	}
}

func TestKillAll(t *testing.T) {
	for _, order := range [][]uint64{{1, 2, 3, 4}, {4, 3, 2, 1}, {2, 4, 1, 3}, {3, 1, 4, 2}} {
		l := filled(t, 4, 1, 2, 3, 4)
		left := []uint64{1, 2, 3, 4}
		for _, id := range order {
			kill(t, l, entry(id))
			left = slices.DeleteFunc(left, func(x uint64) bool { return x == id })
			tells(t, "killed", l, 4-len(left), entries(left...))
		}
		empty(t, l)
		missing(t, l, order...)
	}
}

func TestKillOfNone(t *testing.T) {
	for _, ids := range [][]uint64{nil, {5}, {5, 6}, {5, last, 7, 8}} {
		l := filled(t, 4, ids...)
		missing(t, l, append(bad, 1, 4, 9, last-1, 5+1<<48, 7+1<<63)...)
		tells(t, "behind it", l, 4-len(ids), entries(ids...))
	}
}

func TestPop(t *testing.T) {
	ids := []uint64{7, 3, last, 1, 5, 2, 8, 4}
	for n := range len(ids) + 1 {
		l := filled(t, 8, ids[:n]...)
		for i := n; i > 0; i-- {
			pop(t, l, entry(ids[i-1]))
			tells(t, "popped", l, 9-i, entries(ids[:i-1]...))
		}
		empty(t, l)
		is(t, "Add", l.Add(entry(9)), api.OK)
		tells(t, "added", l, 7, entries(9))
	}
}

func TestTheZeroList(t *testing.T) {
	for _, l := range []List{{}, Open(view.View{})} {
		if l.Room() != 0 || len(l.All()) != 0 {
			t.Errorf("it has room for %d, and %v", l.Room(), l.All())
		}
		if x, ok := l.Pop(); x != (Entry{}) || ok {
			t.Errorf("Pop: %v, %v", x, ok)
		}
		for _, id := range append(bad, 1, last) {
			is(t, "Add", l.Add(entry(id)), api.ErrNil)
			if x, e := l.Kill(id); x != (Entry{}) || e != api.ErrNil {
				t.Errorf("Kill(%d): %v, error %d", id, x, e)
			}
		}
	}
}

// P21.3

func TestWhatCameLastGoesFirst(t *testing.T) {
	l := filled(t, 8, 1, 2, 3, 4, 5)
	kill(t, l, entry(5))
	kill(t, l, entry(2))
	is(t, "Add", l.Add(entry(6)), api.OK)
	pop(t, l, entry(6))
	is(t, "Add", l.Add(entry(2)), api.OK)
	kill(t, l, entry(1))
	for _, id := range []uint64{2, 4, 3} {
		pop(t, l, entry(id))
	}
	empty(t, l)
}

func TestTheListIsInTheArenaAlone(t *testing.T) {
	a := pages(t, 2)
	l, again := list(t, a, 4000, 120), list(t, a, 4000, 120)
	is(t, "Add", l.Add(entry(1)), api.OK)
	is(t, "Add", again.Add(entry(2)), api.OK)
	is(t, "Add", l.Add(entry(3)), api.OK)
	kill(t, again, entry(1))
	twin := list(t, a.Clone(), 4000, 120)
	is(t, "Add", l.Add(entry(4)), api.OK)
	pop(t, twin, entry(3))
	for _, x := range []List{l, again, list(t, a, 4000, 120), list(t, a, 4000, 143)} {
		tells(t, "here", x, 2, entries(2, 3, 4))
	}
	tells(t, "over a clone", twin, 4, entries(2))
	pop(t, l, entry(4))
	tells(t, "opened ahead", again, 3, entries(2, 3))
}

func TestOnlySlotsAreStoredIn(t *testing.T) {
	for _, spare := range []int{0, 1, 23} {
		a := pages(t, 2)
		is(t, "Fill", a.Fill(0, 2*api.Page, 'x'), api.OK)
		is(t, "Fill", a.Fill(4000, 24*5, 0), api.OK)
		l := list(t, a, 4000, 24*5+spare)
		for id := range uint64(5) {
			is(t, "Add", l.Add(Entry{last - id, 255, 255, math.MaxUint64}), api.OK)
		}
		refused(t, l, entry(1), api.ErrFull)
		kill(t, l, Entry{last, 255, 255, math.MaxUint64})
		kill(t, l, Entry{last - 4, 255, 255, math.MaxUint64})
		pop(t, l, Entry{last - 3, 255, 255, math.MaxUint64})
		for at, b := range []byte(whole(t, a)) {
			if mine := at >= 4000 && at < 4000+24*5; !mine && b != 'x' {
				t.Fatalf("the byte %d is %d", at, b)
			}
		}
	}
}

func TestAllIsNewMemory(t *testing.T) {
	l := filled(t, 3, 1, 2)
	one, two := l.All(), l.All()
	one[0], one[1] = Entry{}, Entry{}
	if !slices.Equal(two, entries(1, 2)) {
		t.Errorf("another answer is %v", two)
	}
	tells(t, "behind it", l, 1, two)
}

func TestMany(t *testing.T) {
	l := list(t, pages(t, 5), 100, 4*api.Page)
	const n = 4 * api.Page / 24
	var ids []uint64
	for i := range uint64(n) {
		ids = append(ids, last-7*i)
		is(t, "Add", l.Add(entry(last-7*i)), api.OK)
	}
	tells(t, "full", l, 0, entries(ids...))
	refused(t, l, entry(1), api.ErrFull)
	kill(t, l, entry(ids[0]))
	kill(t, l, entry(ids[n/2]))
	ids = slices.Delete(slices.Delete(ids, n/2, n/2+1), 0, 1)
	tells(t, "killed", l, 2, entries(ids...))
	pop(t, l, entry(ids[n-3]))
	tells(t, "popped", l, 3, entries(ids[:n-3]...))
}

func TestAGreatView(t *testing.T) {
	l := list(t, pages(t, api.MaxPages), 0, api.Most)
	if n := l.Room(); n != api.Most/24 {
		t.Fatalf("room for %d", n)
	}
	is(t, "Add", l.Add(entry(1)), api.OK)
	if n := l.Room(); n != api.Most/24-1 {
		t.Fatalf("room for %d", n)
	}
	pop(t, l, entry(1))
}

// There is no room in slots whose bytes aren't there any more, and no entry.
func TestSlotsThatAreNotThereAnyMore(t *testing.T) {
	for _, first := range []int{0, 23, 24, 47, 48, 60} { // so many bytes are up to the page's end
		a := pages(t, 2)
		l := list(t, a, api.Page-first, 5*24)
		for id := range uint64(4) {
			is(t, "Add", l.Add(entry(id+1)), api.OK)
		}
		is(t, "Decommit", a.Decommit(1, 1), api.OK)
		ids := []uint64{1, 2}[:first/24]
		tells(t, "not there", l, 0, entries(ids...))
		missing(t, l, []uint64{1, 2, 3, 4, 5}[len(ids):]...)
		refused(t, l, entry(9), api.ErrFull)
		for i := len(ids); i > 0; i-- {
			pop(t, l, entry(ids[i-1]))
			tells(t, "popped", l, len(ids)-i+1, entries(ids[:i-1]...))
		}
		empty(t, l)
	}
}

// Nothing is promised of what is told then, but that each call ends.
func TestEachCallEndsWhateverStandsThere(t *testing.T) {
	for _, x := range []uint64{1, 1 << 48, 1 << 63, math.MaxUint64, 0x0101010101010101} {
		for _, size := range []int{1, 24, 100, 2 * api.Page} {
			a := pages(t, 2)
			for at := 0; at < 2*api.Page; at += 8 {
				is(t, "Store", a.Store(at, 8, x), api.OK)
			}
			l := list(t, a, 0, size)
			for range 3 {
				l.Room()
				l.All()
				l.Add(entry(3))
				l.Kill(x)
				l.Kill(3)
				l.Pop()
			}
		}
	}
}

// play is a list, and what it should have; the numbers of a step follow from the one's ahead.
type play struct {
	t    *testing.T
	l    List
	n    int
	all  []Entry
	next uint64
	x    int
}

func (p *play) number(below int) int {
	p.x = (p.x*1103515245 + 12345) % (1 << 31)
	return p.x / 64 % below
}

// id: that of one of the last entries that came, most of which are gone; 0 ahead of the first one.
func (p *play) id() uint64 {
	return p.next - uint64(p.number(min(int(p.next)+1, 2*p.n+2)))
}

func (p *play) add() {
	p.next++
	x := entry(p.next)
	if p.number(4) == 0 {
		x.ID = p.id()
	}
	wanted := api.OK
	switch {
	case x.ID == 0:
		wanted = api.ErrArg
	case slices.ContainsFunc(p.all, func(y Entry) bool { return y.ID == x.ID }):
		wanted = api.ErrThere
	case len(p.all) == p.n:
		wanted = api.ErrFull
	default:
		p.all = append(p.all, x)
	}
	is(p.t, "Add", p.l.Add(x), wanted)
}

func (p *play) kill() {
	id := p.id()
	i := slices.IndexFunc(p.all, func(y Entry) bool { return y.ID == id })
	if i < 0 {
		missing(p.t, p.l, id)
		return
	}
	kill(p.t, p.l, p.all[i])
	p.all = slices.Delete(p.all, i, i+1)
}

func (p *play) pop() {
	if len(p.all) == 0 {
		empty(p.t, p.l)
		return
	}
	pop(p.t, p.l, p.all[len(p.all)-1])
	p.all = p.all[:len(p.all)-1]
}

func TestAsTheChapterSays(t *testing.T) {
	for _, n := range []int{1, 2, 4, 8, 30} {
		p := &play{t: t, l: list(t, pages(t, 2), 4000, 24*n+n%24), n: n, x: n}
		for range 2000 {
			switch k := p.number(10); {
			case k < 5:
				p.add()
			case k < 7:
				p.kill()
			case k < 9:
				p.pop()
			default:
				p.l = list(t, p.l.Clone(), p.l.At(), p.l.Size())
			}
			tells(t, "a step", p.l, n-len(p.all), p.all)
		}
	}
}
