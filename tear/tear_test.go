package tear

import (
	"math"
	"slices"
	"strings"
	"testing"

	"millpond/api"
	"millpond/arena"
	"millpond/clean"
	"millpond/node"
	"millpond/pool"
	"millpond/refs"
)

// nobody: numbers that are no handle of any of these tests.
var nobody = []api.Handle{0, 1, 9, 255, 511, 512, 256 << 20, math.MaxUint64}

// is: a test ends, if an error is another one than was wanted.
func is(t *testing.T, what string, got, wanted api.Errno) {
	t.Helper()
	if got != wanted {
		t.Fatalf("%s: error %d, wanted %d", what, got, wanted)
	}
}

// fresh: a new forest, of an arena of so many pages.
func fresh(t *testing.T, cap int) *pool.Forest {
	t.Helper()
	f, e := pool.New(arena.New(cap))
	is(t, "pool.New", e, api.OK)
	return f
}

// one: a pool.
func one(t *testing.T, f *pool.Forest, parent api.Handle) api.Handle {
	t.Helper()
	h, e := f.Make(parent, pool.Pool, "p", 0)
	is(t, "Make", e, api.OK)
	return h
}

// many: so many pools of one parent.
func many(t *testing.T, f *pool.Forest, parent api.Handle, n int) []api.Handle {
	t.Helper()
	var all []api.Handle
	for range n {
		all = append(all, one(t, f, parent))
	}
	return all
}

// bytes: a block.
func bytes(t *testing.T, f *pool.Forest, parent api.Handle, n int) api.Handle {
	t.Helper()
	h, e := f.Make(parent, pool.Block, "b", n)
	is(t, "Make", e, api.OK)
	return h
}

// of: the node of a handle.
func of(t *testing.T, f *pool.Forest, h api.Handle) node.Node {
	t.Helper()
	n, e := f.Node(h)
	is(t, "Node", e, api.OK)
	return n
}

// gone: is a handle of nothing any more?
func gone(t *testing.T, f *pool.Forest, handles ...api.Handle) {
	t.Helper()
	for _, h := range handles {
		_, e := f.Node(h)
		is(t, "Node of what is gone", e, api.ErrHandle)
	}
}

// tie: a node is held by others, the first of them first.
func tie(t *testing.T, f *pool.Forest, to api.Handle, holders ...api.Handle) {
	t.Helper()
	for _, h := range holders {
		is(t, "Tie", refs.Tie(of(t, f, h), of(t, f, to), f.Serial()), api.OK)
	}
}

// limit: a node has a limit.
func limit(t *testing.T, f *pool.Forest, h api.Handle, n int) {
	t.Helper()
	is(t, "SetLimit", f.SetLimit(of(t, f, h).Where(), n), api.OK)
}

// dies: nodes die.
func dies(t *testing.T, f *pool.Forest, handles ...api.Handle) {
	t.Helper()
	for _, h := range handles {
		of(t, f, h).Set(node.State, 1)
	}
}

// register: an entry more; its ID.
func register(t *testing.T, f *pool.Forest, h api.Handle, pre bool, kind uint8, arg uint64) uint64 {
	t.Helper()
	id, e := Register(f, h, pre, kind, arg)
	is(t, "Register", e, api.OK)
	return id
}

// notes: cleanups more, Notes.
func notes(t *testing.T, f *pool.Forest, h api.Handle, args ...uint64) {
	t.Helper()
	for _, arg := range args {
		register(t, f, h, false, Note, arg)
	}
}

// pres: pre-cleanups more, Notes.
func pres(t *testing.T, f *pool.Forest, h api.Handle, args ...uint64) {
	t.Helper()
	for _, arg := range args {
		register(t, f, h, true, Note, arg)
	}
}

// pending: are a list's entries these?
func pending(t *testing.T, f *pool.Forest, h api.Handle, pre bool, wanted ...clean.Entry) {
	t.Helper()
	if got := Pending(f, h, pre); !slices.Equal(got, wanted) {
		t.Fatalf("pending of %d, %t: %v, wanted %v", h, pre, got, wanted)
	}
}

// tells: does a call tell these events?
func tells(t *testing.T, what string, got []Event, e api.Errno, wanted ...Event) {
	t.Helper()
	is(t, what, e, api.OK)
	if !slices.Equal(got, wanted) {
		t.Fatalf("%s tells %v, wanted %v", what, got, wanted)
	}
}

// runs: does Run tell these?
func runs(t *testing.T, f *pool.Forest, h api.Handle, id uint64, wanted ...Event) {
	t.Helper()
	l, e := Run(f, h, id)
	tells(t, "Run", l, e, wanted...)
}

// destroys: does Destroy tell these?
func destroys(t *testing.T, f *pool.Forest, h api.Handle, wanted ...Event) {
	t.Helper()
	l, e := Destroy(f, h)
	tells(t, "Destroy", l, e, wanted...)
}

// clears: does Clear tell these?
func clears(t *testing.T, f *pool.Forest, h api.Handle, wanted ...Event) {
	t.Helper()
	l, e := Clear(f, h)
	tells(t, "Clear", l, e, wanted...)
}

// none: does a call tell nothing, beside an error?
func none(t *testing.T, what string, got []Event, e, wanted api.Errno) {
	t.Helper()
	is(t, what, e, wanted)
	if len(got) != 0 {
		t.Fatalf("%s tells %v beside an error", what, got)
	}
}

// children: are a node's these?
func children(t *testing.T, f *pool.Forest, h api.Handle, wanted ...api.Handle) {
	t.Helper()
	var all []int
	for _, child := range wanted {
		all = append(all, of(t, f, child).Where())
	}
	if got := f.Children(of(t, f, h).Where()); !slices.Equal(got, all) {
		t.Fatalf("the children of %d are at %v, wanted %v", h, got, wanted)
	}
}

// charged: is a node's own charge that, and its sum?
func charged(t *testing.T, f *pool.Forest, h api.Handle, own, sum int) {
	t.Helper()
	at := of(t, f, h).Where()
	if f.Own(at) != own || f.Sum(at) != sum {
		t.Fatalf("%d is charged with %d, in all %d, wanted %d and %d", h, f.Own(at), f.Sum(at), own, sum)
	}
}

// sizes: are those of a node's objects these, the last one first?
func sizes(t *testing.T, f *pool.Forest, h api.Handle, wanted ...int) {
	t.Helper()
	var all []int
	for _, o := range of(t, f, h).Objects() {
		all = append(all, o.Size)
	}
	if !slices.Equal(all, wanted) {
		t.Fatalf("%d has objects of %v bytes, wanted %v", h, all, wanted)
	}
}

// same: a call changes nothing.
func same(t *testing.T, f *pool.Forest, what string, call func()) {
	t.Helper()
	before := whole(t, f)
	call()
	if whole(t, f) != before {
		t.Fatalf("%s changes something", what)
	}
}

// whole: all bytes that are committed, page by page.
func whole(t *testing.T, f *pool.Forest) string {
	t.Helper()
	var all strings.Builder
	for from, n := range f.Pages().Rows() {
		s, e := f.Bytes(from*api.Page, n*api.Page)
		is(t, "Bytes", e, api.OK)
		all.WriteString(s)
	}
	return all.String()
}

func TestExample(t *testing.T) {
	f := fresh(t, 40)
	a := one(t, f, 256)
	b := one(t, f, a)
	notes(t, f, a, 1)
	notes(t, f, b, 2)
	pres(t, f, b, 3)
	destroys(t, f, a, Event{b, Note, 3}, Event{b, Note, 2}, Event{a, Note, 1})
	gone(t, f, a, b)
	children(t, f, 256)
}

func TestKinds(t *testing.T) {
	if kinds := [...]uint8{Note, Alloc, Again, Killing, Destroying}; kinds != [...]uint8{0, 1, 2, 3, 4} {
		t.Errorf("the kinds are %v", kinds)
	}
}

// P27.1

func TestRegister(t *testing.T) {
	f := fresh(t, 40)
	a := one(t, f, 256)
	b := bytes(t, f, a, 3)
	// IDs go on from one node to the next one, and from list to list.
	for i, c := range []struct {
		h    api.Handle
		pre  bool
		kind uint8
		arg  uint64
	}{{a, false, Note, 7}, {a, true, Destroying, math.MaxUint64}, {b, false, 255, 0}, {256, true, Again, 5}, {a, false, Alloc, 7}} {
		if id := register(t, f, c.h, c.pre, c.kind, c.arg); id != uint64(i+1) {
			t.Fatalf("the ID is %d, wanted %d", id, i+1)
		}
	}
	pending(t, f, a, false, clean.Entry{ID: 1, Kind: Note, Arg: 7}, clean.Entry{ID: 5, Kind: Alloc, Arg: 7})
	pending(t, f, a, true, clean.Entry{ID: 2, Kind: Destroying, Arg: math.MaxUint64})
	pending(t, f, b, false, clean.Entry{ID: 3, Kind: 255})
	pending(t, f, b, true)
	pending(t, f, 256, true, clean.Entry{ID: 4, Kind: Again, Arg: 5})
	pending(t, f, 256, false)
	// The serials are those of all the forest.
	if x := f.Serial(); x != 6 {
		t.Fatalf("the next serial is %d", x)
	}
	if id := register(t, f, a, true, Note, 0); id != 7 {
		t.Fatalf("the ID behind a serial is %d", id)
	}
	sizes(t, f, a)
	charged(t, f, a, 0, 3)
}

// The lists stand in the node's parts.
func TestRegisterInTheParts(t *testing.T) {
	f := fresh(t, 40)
	register(t, f, 256, false, Again, 9)
	register(t, f, 256, true, Killing, 8)
	n := of(t, f, 256)
	if l := clean.Open(n.Part(node.Cleans)).All(); !slices.Equal(l, []clean.Entry{{ID: 1, Kind: Again, Arg: 9}}) {
		t.Errorf("the cleanups are %v", l)
	}
	if l := clean.Open(n.Part(node.Pres)).All(); !slices.Equal(l, []clean.Entry{{ID: 2, Kind: Killing, Arg: 8}}) {
		t.Errorf("the pre-cleanups are %v", l)
	}
	twin, e := pool.Open(f.Clone())
	is(t, "Open", e, api.OK)
	pending(t, twin, 256, false, clean.Entry{ID: 1, Kind: Again, Arg: 9})
	if id := register(t, twin, 256, false, Note, 0); id != 3 {
		t.Errorf("the next ID over a clone is %d", id)
	}
}

func TestRegisterIsFull(t *testing.T) {
	f := fresh(t, 40)
	a := one(t, f, 256)
	full := func(pre bool) {
		t.Helper()
		same(t, f, "a refused Register", func() {
			if id, e := Register(f, a, pre, Note, 1); id != 0 || e != api.ErrFull {
				t.Fatalf("Register of a full list: %d, error %d", id, e)
			}
		})
	}
	for range api.MaxPres {
		pres(t, f, a, 1)
	}
	full(true)
	for range api.MaxCleans {
		notes(t, f, a, 1)
	}
	full(false)
	full(true)
	is(t, "Kill", Kill(f, a, 2), api.OK)
	if id := register(t, f, a, true, Note, 1); id != api.MaxPres+api.MaxCleans+1 {
		t.Errorf("what was refused uses up an ID: %d", id)
	}
	full(true)
	full(false)
	// Whose list it is counts.
	notes(t, f, 256, 1)
}

func TestRefusals(t *testing.T) {
	f := fresh(t, 40)
	a := one(t, f, 256)
	b := one(t, f, 256)
	notes(t, f, a, 1)
	notes(t, f, b, 2)
	is(t, "Remove", f.Remove(b), api.OK)
	same(t, f, "a refused call", func() {
		for _, h := range append(nobody, a+256, b) {
			id, e := Register(f, h, false, 9, 9)
			is(t, "Register", e, api.ErrHandle)
			if id != 0 || len(Pending(f, h, false))+len(Pending(f, h, true)) != 0 {
				t.Error("something is told of nobody")
			}
			is(t, "Kill", Kill(f, h, 1), api.ErrHandle)
			l, e := Run(f, h, 1)
			none(t, "Run", l, e, api.ErrHandle)
			l, e = Destroy(f, h)
			none(t, "Destroy", l, e, api.ErrHandle)
			l, e = Clear(f, h)
			none(t, "Clear", l, e, api.ErrHandle)
		}
	})
	for _, h := range append(nobody, 256) {
		id, e := Register(nil, h, true, 9, 9)
		is(t, "Register", e, api.ErrNil)
		if id != 0 || len(Pending(nil, h, false))+len(Pending(nil, h, true)) != 0 {
			t.Error("something is told of nil")
		}
		is(t, "Kill", Kill(nil, h, 1), api.ErrNil)
		l, e := Run(nil, h, 1)
		none(t, "Run", l, e, api.ErrNil)
		l, e = Destroy(nil, h)
		none(t, "Destroy", l, e, api.ErrNil)
		l, e = Clear(nil, h)
		none(t, "Clear", l, e, api.ErrNil)
	}
}

func TestKill(t *testing.T) {
	f := fresh(t, 40)
	a, b := one(t, f, 256), one(t, f, 256)
	notes(t, f, a, 10, 20, 30)
	pres(t, f, a, 40, 50)
	notes(t, f, b, 60)
	is(t, "Kill", Kill(f, a, 2), api.OK)
	is(t, "Kill", Kill(f, a, 5), api.OK)
	pending(t, f, a, false, clean.Entry{ID: 1, Arg: 10}, clean.Entry{ID: 3, Arg: 30})
	pending(t, f, a, true, clean.Entry{ID: 4, Arg: 40})
	same(t, f, "a refused call", func() {
		for _, id := range []uint64{0, 2, 5, 6, 7, 1 << 48, math.MaxUint64} {
			is(t, "Kill", Kill(f, a, id), api.ErrNone)
			l, e := Run(f, a, id)
			none(t, "Run", l, e, api.ErrNone)
		}
	})
	destroys(t, f, a, Event{a, Note, 40}, Event{a, Note, 30}, Event{a, Note, 10})
	pending(t, f, b, false, clean.Entry{ID: 6, Arg: 60})
}

// An ID may be in both lists, if somebody lays it there: then it is the cleanup that goes.
func TestKillOfTheCleanupFirst(t *testing.T) {
	f := fresh(t, 40)
	notes(t, f, 256, 1)
	is(t, "Add", clean.Open(of(t, f, 256).Part(node.Pres)).Add(clean.Entry{ID: 1, Arg: 2}), api.OK)
	is(t, "Kill", Kill(f, 256, 1), api.OK)
	pending(t, f, 256, false)
	pending(t, f, 256, true, clean.Entry{ID: 1, Arg: 2})
	runs(t, f, 256, 1, Event{256, Note, 2})
	pending(t, f, 256, true)
}

func TestPendingIsNew(t *testing.T) {
	f := fresh(t, 40)
	notes(t, f, 256, 1, 2)
	l := Pending(f, 256, false)
	l[0].Arg = 9
	pending(t, f, 256, false, clean.Entry{ID: 1, Arg: 1}, clean.Entry{ID: 2, Arg: 2})
}

// Whoever dies may have entries more or less.
func TestOfWhoDies(t *testing.T) {
	f := fresh(t, 40)
	a := one(t, f, 256)
	dies(t, f, a)
	notes(t, f, a, 1, 2)
	is(t, "Kill", Kill(f, a, 1), api.OK)
	runs(t, f, a, 2, Event{a, Note, 2})
	pending(t, f, a, false)
}

// What is run is told, and isn't there any more; that it is a Note, or of no kind that is known, does nothing else.
func TestRunOfNotes(t *testing.T) {
	f := fresh(t, 40)
	a := one(t, f, 256)
	for _, pre := range []bool{false, true} {
		for _, kind := range []uint8{Note, 5, 6, 100, 255} {
			before := whole(t, f)
			id := register(t, f, a, pre, kind, 257)
			runs(t, f, a, id, Event{a, kind, 257})
			pending(t, f, a, pre)
			// But for the serial that is used up.
			if x := f.Serial(); x != id+1 {
				t.Fatalf("the next serial is %d", x)
			}
			if after := whole(t, f); len(after) != len(before) {
				t.Fatal("there are other pages")
			}
			sizes(t, f, a)
			children(t, f, 256, a)
		}
	}
}

func TestRunOfAlloc(t *testing.T) {
	f := fresh(t, 60)
	a := one(t, f, 256)
	for _, arg := range []uint64{10, 999, 1000, 2007, math.MaxUint64} {
		runs(t, f, a, register(t, f, a, arg%2 == 0, Alloc, arg), Event{a, Alloc, arg})
	}
	sizes(t, f, a, 615, 7, 0, 999, 10)
	charged(t, f, a, 1631, 1631)
	charged(t, f, 256, 0, 1631)
	if used := of(t, f, a).Used(); used != 1631 {
		t.Errorf("%d bytes are used", used)
	}
	// Aligned to 1: each one's header is right behind the one ahead.
	behind := of(t, f, a).Where() + api.Front
	for _, o := range slices.Backward(of(t, f, a).Objects()) {
		if o.At != behind+api.Small {
			t.Errorf("an object is at %d, wanted %d", o.At, behind+api.Small)
		}
		behind = o.At + o.Size
	}
}

func TestRunOfAllocOfABlock(t *testing.T) {
	f := fresh(t, 60)
	b := bytes(t, f, 256, 5)
	runs(t, f, b, register(t, f, b, false, Alloc, 7), Event{b, Alloc, 7})
	sizes(t, f, b, 5)
	charged(t, f, b, 5, 5)
}

// While the last object is held nothing is allocated, be there one or not.
func TestRunOfAllocWhileItIsHeld(t *testing.T) {
	f := fresh(t, 60)
	a := one(t, f, 256)
	n := of(t, f, a)
	n.Hold(1)
	runs(t, f, a, register(t, f, a, false, Alloc, 7), Event{a, Alloc, 7})
	n.Hold(0)
	is(t, "Begin", n.Begin(8), api.OK)
	is(t, "Grow", n.Grow("ab"), api.OK)
	runs(t, f, a, register(t, f, a, false, Alloc, 7), Event{a, Alloc, 7})
	sizes(t, f, a, 2)
	charged(t, f, a, 0, 0)
	_, e := n.Finish()
	is(t, "Finish", e, api.OK)
	runs(t, f, a, register(t, f, a, false, Alloc, 7), Event{a, Alloc, 7})
	sizes(t, f, a, 7, 2)
	charged(t, f, a, 7, 7)
}

// A limit, its own or that of a node above, is in the way of more.
func TestRunOfAllocAndLimits(t *testing.T) {
	for _, c := range []struct{ ground, own, arg, wanted int }{{-1, -1, 999, 999}, {10, -1, 11, -1}, {10, -1, 10, 10}, {-1, 10, 11, -1}, {-1, 10, 10, 10}, {0, 0, 1, -1}, {0, 0, 0, 0}, {0, 0, 3000, 0}, {5, 6, 6, -1}} {
		f := fresh(t, 60)
		a := one(t, f, 256)
		limit(t, f, 256, c.ground)
		limit(t, f, a, c.own)
		runs(t, f, a, register(t, f, a, false, Alloc, uint64(c.arg)), Event{a, Alloc, uint64(c.arg)})
		if c.wanted < 0 {
			sizes(t, f, a)
			charged(t, f, a, 0, 0)
			continue
		}
		sizes(t, f, a, c.wanted)
		charged(t, f, a, c.wanted, c.wanted)
		charged(t, f, 256, 0, c.wanted)
	}
}

func TestRunOfAllocWithoutMemory(t *testing.T) {
	f := fresh(t, 5)
	a := one(t, f, 256)
	n := of(t, f, a)
	// So that neither its chunk nor the arena has room for more.
	_, e := n.Alloc(api.Page-api.Front-api.Small-100, 1)
	is(t, "Alloc", e, api.OK)
	used := n.Used()
	id := register(t, f, a, false, Alloc, 999)
	runs(t, f, a, id, Event{a, Alloc, 999})
	if len(n.Objects()) != 1 || n.Used() != used {
		t.Error("something was allocated without memory")
	}
	charged(t, f, a, 0, 0)
	runs(t, f, a, register(t, f, a, false, Alloc, 60), Event{a, Alloc, 60})
	sizes(t, f, a, 60, used)
	charged(t, f, a, 60, 60)
}

func TestRunOfAgain(t *testing.T) {
	f := fresh(t, 40)
	a := one(t, f, 256)
	notes(t, f, a, 1)
	runs(t, f, a, register(t, f, a, false, Again, 7), Event{a, Again, 7})
	pending(t, f, a, false, clean.Entry{ID: 1, Arg: 1}, clean.Entry{ID: 3, Kind: Note, Level: 1, Arg: 8})
	// It is a cleanup that comes, of a pre-cleanup, too.
	runs(t, f, a, register(t, f, a, true, Again, math.MaxUint64), Event{a, Again, math.MaxUint64})
	pending(t, f, a, true)
	pending(t, f, a, false, clean.Entry{ID: 1, Arg: 1}, clean.Entry{ID: 3, Level: 1, Arg: 8}, clean.Entry{ID: 5, Level: 1, Arg: 0})
	// A Note is no Again any more.
	runs(t, f, a, 3, Event{a, Note, 8})
	pending(t, f, a, false, clean.Entry{ID: 1, Arg: 1}, clean.Entry{ID: 5, Level: 1, Arg: 0})
}

func TestRunOfAgainWhereItIsFull(t *testing.T) {
	f := fresh(t, 40)
	notes(t, f, 256, 1, 2, 3, 4, 5, 6, 7)
	register(t, f, 256, false, Again, 8)
	register(t, f, 256, true, Again, 9)
	l := Pending(f, 256, false)
	runs(t, f, 256, 9, Event{256, Again, 9})
	pending(t, f, 256, false, l...)
	pending(t, f, 256, true)
	// Nothing is done, so no serial is used up. One of a full list has room, as it is gone when it is run.
	runs(t, f, 256, 8, Event{256, Again, 8})
	pending(t, f, 256, false, append(l[:7], clean.Entry{ID: 10, Level: 1, Arg: 9})...)
}

func TestRunOfAgainAndLevels(t *testing.T) {
	for level := range 256 {
		f := fresh(t, 40)
		l := clean.Open(of(t, f, 256).Part(node.Cleans))
		is(t, "Add", l.Add(clean.Entry{ID: 70, Kind: Again, Level: uint8(level), Arg: 5}), api.OK)
		runs(t, f, 256, 70, Event{256, Again, 5})
		if level < 4 {
			pending(t, f, 256, false, clean.Entry{ID: 1, Kind: Note, Level: uint8(level + 1), Arg: 6})
		} else {
			pending(t, f, 256, false)
			if f.Serial() != 1 {
				t.Error("a serial is used up")
			}
		}
	}
}

func TestRunOfKilling(t *testing.T) {
	f := fresh(t, 40)
	a := one(t, f, 256)
	notes(t, f, a, 10, 20)
	pres(t, f, a, 30)
	notes(t, f, 256, 40)
	runs(t, f, a, register(t, f, a, false, Killing, 2), Event{a, Killing, 2})
	pending(t, f, a, false, clean.Entry{ID: 1, Arg: 10})
	runs(t, f, a, register(t, f, a, true, Killing, 3), Event{a, Killing, 3})
	pending(t, f, a, true)
	// Of others, of itself and of what isn't there nothing goes.
	for _, id := range []uint64{2, 4, 7, 0, 50, math.MaxUint64} {
		runs(t, f, a, register(t, f, a, false, Killing, id), Event{a, Killing, id})
	}
	pending(t, f, a, false, clean.Entry{ID: 1, Arg: 10})
	pending(t, f, 256, false, clean.Entry{ID: 4, Arg: 40})
	// Of both lists it is the cleanup.
	is(t, "Add", clean.Open(of(t, f, a).Part(node.Pres)).Add(clean.Entry{ID: 1, Arg: 9}), api.OK)
	runs(t, f, a, register(t, f, a, false, Killing, 1), Event{a, Killing, 1})
	pending(t, f, a, false)
	pending(t, f, a, true, clean.Entry{ID: 1, Arg: 9})
}

func TestRunOfDestroying(t *testing.T) {
	f := fresh(t, 60)
	a, b := one(t, f, 256), one(t, f, 256)
	c := one(t, f, b)
	notes(t, f, b, 1)
	notes(t, f, c, 2)
	runs(t, f, a, register(t, f, a, false, Destroying, uint64(b)), Event{a, Destroying, uint64(b)}, Event{c, Note, 2}, Event{b, Note, 1})
	gone(t, f, b, c)
	// Where it is an error there is only that entry: of nobody, of the ground, of who dies, or has somebody who does.
	d := one(t, f, 256)
	below := one(t, f, d)
	notes(t, f, d, 3)
	dies(t, f, below)
	for _, h := range []api.Handle{b, 0, math.MaxUint64, 256, d, below} {
		runs(t, f, a, register(t, f, a, true, Destroying, uint64(h)), Event{a, Destroying, uint64(h)})
	}
	children(t, f, 256, a, d)
	children(t, f, d, below)
	of(t, f, below).Set(node.State, 0)
	// The node itself may go, and one above it.
	e := one(t, f, a)
	notes(t, f, e, 4, 5)
	id := register(t, f, e, false, Destroying, uint64(e))
	runs(t, f, e, id, Event{e, Destroying, uint64(e)}, Event{e, Note, 5}, Event{e, Note, 4})
	gone(t, f, e)
	e = one(t, f, a)
	notes(t, f, e, 6)
	id = register(t, f, e, true, Destroying, uint64(a))
	runs(t, f, e, id, Event{e, Destroying, uint64(a)}, Event{e, Note, 6})
	gone(t, f, a, e)
	children(t, f, 256, d)
}
