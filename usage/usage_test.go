package usage

import (
	"math"
	"slices"
	"strings"
	"testing"

	"millpond/api"
	"millpond/arena"
	"millpond/node"
	"millpond/pool"
	"millpond/refs"
	"millpond/tear"
)

// nobody: numbers that are no handle of any of these tests.
var nobody = []api.Handle{0, 1, 9, 255, 511, 512, 256 << 20, math.MaxUint64}

// is: a test ends, if an error is another one than was wanted.
func is(t *testing.T, what string, got, wanted api.Errno) {
	t.Helper()
	if got != wanted {
		t.Fatalf("%s: error %d, wanted %d", what, got, wanted)
	}
}

// fresh: a new forest, of an arena of so many pages.
func fresh(t *testing.T, cap int) *pool.Forest {
	t.Helper()
	f, e := pool.New(arena.New(cap))
	is(t, "pool.New", e, api.OK)
	return f
}

// one: a pool of that name.
func one(t *testing.T, f *pool.Forest, parent api.Handle, name string) api.Handle {
	t.Helper()
	h, e := f.Make(parent, pool.Pool, name, 0)
	is(t, "Make", e, api.OK)
	return h
}

// bytes: a block of that name.
func bytes(t *testing.T, f *pool.Forest, parent api.Handle, name string, n int) api.Handle {
	t.Helper()
	h, e := f.Make(parent, pool.Block, name, n)
	is(t, "Make", e, api.OK)
	return h
}

// of: the node of a handle.
func of(t *testing.T, f *pool.Forest, h api.Handle) node.Node {
	t.Helper()
	n, e := f.Node(h)
	is(t, "Node", e, api.OK)
	return n
}

// alloc: objects of a pool, of so many bytes each.
func alloc(t *testing.T, f *pool.Forest, h api.Handle, sizes ...int) {
	t.Helper()
	n := of(t, f, h)
	for _, size := range sizes {
		_, e := n.Alloc(size, 1)
		is(t, "Alloc", e, api.OK)
	}
}

// tie: a node refers to others.
func tie(t *testing.T, f *pool.Forest, from api.Handle, all ...api.Handle) {
	t.Helper()
	for _, to := range all {
		is(t, "Tie", refs.Tie(of(t, f, from), of(t, f, to), f.Serial()), api.OK)
	}
}

// register: a note more; its ID.
func register(t *testing.T, f *pool.Forest, h api.Handle, pre bool) uint64 {
	t.Helper()
	id, e := tear.Register(f, h, pre, tear.Note, 0)
	is(t, "Register", e, api.OK)
	return id
}

// reports: are the rows these?
func reports(t *testing.T, f *pool.Forest, h api.Handle, wanted ...Row) {
	t.Helper()
	same(t, f, "Report", func() {
		t.Helper()
		rows, e := Report(f, h)
		is(t, "Report", e, api.OK)
		if !slices.Equal(rows, wanted) {
			t.Fatalf("Report of %d:\n%v, wanted\n%v", h, rows, wanted)
		}
	})
}

// leads: is the path this, and where it leads to that node?
func leads(t *testing.T, f *pool.Forest, h api.Handle, path ...string) {
	t.Helper()
	names(t, f, h, path...)
	found(t, f, h, path...)
}

// names: is the path this?
func names(t *testing.T, f *pool.Forest, h api.Handle, wanted ...string) {
	t.Helper()
	same(t, f, "Path", func() {
		t.Helper()
		path, e := Path(f, h)
		is(t, "Path", e, api.OK)
		if !slices.Equal(path, wanted) {
			t.Fatalf("Path of %d: %q, wanted %q", h, path, wanted)
		}
	})
}

// found: does a path lead to that node?
func found(t *testing.T, f *pool.Forest, wanted api.Handle, path ...string) {
	t.Helper()
	lookup(t, f, path, wanted, api.OK)
}

// none: does a path lead to nothing?
func none(t *testing.T, f *pool.Forest, path ...string) {
	t.Helper()
	lookup(t, f, path, 0, api.ErrNone)
}

// lookup: does Lookup answer that, and change nothing?
func lookup(t *testing.T, f *pool.Forest, path []string, wanted api.Handle, error api.Errno) {
	t.Helper()
	kept := slices.Clone(path)
	same(t, f, "Lookup", func() {
		t.Helper()
		if h, e := Lookup(f, path...); h != wanted || e != error {
			t.Fatalf("Lookup of %q: %d, error %d, wanted %d, error %d", path, h, e, wanted, error)
		}
	})
	if !slices.Equal(path, kept) {
		t.Fatalf("Lookup changes %q", kept)
	}
}

// same: a call changes nothing.
func same(t *testing.T, f *pool.Forest, what string, call func()) {
	t.Helper()
	before := whole(t, f)
	call()
	if whole(t, f) != before {
		t.Fatalf("%s changes something", what)
	}
}

// whole: all bytes that are committed, page by page.
func whole(t *testing.T, f *pool.Forest) string {
	t.Helper()
	var all strings.Builder
	for from, n := range f.Pages().Rows() {
		s, e := f.Bytes(from*api.Page, n*api.Page)
		is(t, "Bytes", e, api.OK)
		all.WriteString(s)
	}
	return all.String()
}

func TestExample(t *testing.T) {
	f := fresh(t, 20)
	rows, e := Report(f, f.Ground())
	is(t, "Report", e, api.OK)
	if l := Lines(rows); !slices.Equal(l, []string{"256 1 . 1 0 0 0 0"}) {
		t.Errorf("the lines are %q", l)
	}
}

// P29.1

func TestReport(t *testing.T) {
	f := fresh(t, 60)
	a := one(t, f, 256, "a")
	x := one(t, f, 256, "")
	b := bytes(t, f, a, "b", 5)
	c := one(t, f, a, "c")
	d := bytes(t, f, c, "sixteen letters.", 0)
	y := bytes(t, f, x, "b", 300)
	reports(t, f, 256,
		Row{256, 0, 1, "", 7, 3, 305, 0, 0},
		Row{a, 1, 1, "a", 4, 2, 5, 0, 0},
		Row{b, 2, 2, "b", 1, 1, 5, 0, 0},
		Row{c, 2, 1, "c", 2, 1, 0, 0, 0},
		Row{d, 3, 2, "sixteen letters.", 1, 1, 0, 0, 0},
		Row{x, 1, 1, "", 2, 1, 300, 0, 0},
		Row{y, 2, 2, "b", 1, 1, 300, 0, 0},
	)
	// Of what is asked for the depth is 0.
	reports(t, f, c, Row{c, 0, 1, "c", 2, 1, 0, 0, 0}, Row{d, 1, 2, "sixteen letters.", 1, 1, 0, 0, 0})
	reports(t, f, d, Row{d, 0, 2, "sixteen letters.", 1, 1, 0, 0, 0})
	// A block may be a parent; children are told in their order, whatever their handles are.
	is(t, "Move", f.Move(of(t, f, x).Where(), of(t, f, b).Where()), api.OK)
	is(t, "Move", f.Move(of(t, f, b).Where(), of(t, f, a).Where()), api.OK)
	reports(t, f, a,
		Row{a, 0, 1, "a", 6, 3, 305, 0, 0},
		Row{c, 1, 1, "c", 2, 1, 0, 0, 0},
		Row{d, 2, 2, "sixteen letters.", 1, 1, 0, 0, 0},
		Row{b, 1, 2, "b", 3, 2, 305, 0, 0},
		Row{x, 2, 1, "", 2, 1, 300, 0, 0},
		Row{y, 3, 2, "b", 1, 1, 300, 0, 0},
	)
}

// What has no bytes is an object, and so is what grows; what is gone isn't.
func TestReportOfObjects(t *testing.T) {
	f := fresh(t, 60)
	a := one(t, f, 256, "a")
	b := one(t, f, a, "b")
	alloc(t, f, 256, 1)
	alloc(t, f, a, 0, 5, 5000)
	alloc(t, f, b, 7, 0)
	is(t, "Begin", of(t, f, b).Begin(1), api.OK)
	reports(t, f, 256, Row{256, 0, 1, "", 3, 7, 0, 0, 0}, Row{a, 1, 1, "a", 2, 6, 0, 0, 0}, Row{b, 2, 1, "b", 1, 3, 0, 0, 0})
	is(t, "Free", of(t, f, a).Free(of(t, f, a).Objects()[1].At), api.OK)
	of(t, f, b).Empty()
	reports(t, f, 256, Row{256, 0, 1, "", 3, 2, 0, 0, 0}, Row{a, 1, 1, "a", 2, 1, 0, 0, 0}, Row{b, 2, 1, "b", 1, 0, 0, 0, 0})
}

// The bytes are what is charged, be there objects or not.
func TestReportOfBytes(t *testing.T) {
	f := fresh(t, 60)
	a := one(t, f, 256, "a")
	b := bytes(t, f, a, "b", 10)
	for h, n := range map[api.Handle]int{256: 1, a: 100, b: 1 << 20} {
		is(t, "Charge", f.Charge(of(t, f, h).Where(), n), api.OK)
	}
	reports(t, f, 256, Row{256, 0, 1, "", 3, 1, 1<<20 + 111, 0, 0}, Row{a, 1, 1, "a", 2, 1, 1<<20 + 110, 0, 0}, Row{b, 2, 2, "b", 1, 1, 1<<20 + 10, 0, 0})
	is(t, "Charge", f.Charge(of(t, f, a).Where(), -100), api.OK)
	reports(t, f, a, Row{a, 0, 1, "a", 2, 1, 1<<20 + 10, 0, 0}, Row{b, 1, 2, "b", 1, 1, 1<<20 + 10, 0, 0})
}

// All links count, two to one node, too; whom others refer to doesn't.
func TestReportOfRefs(t *testing.T) {
	f := fresh(t, 60)
	a := one(t, f, 256, "a")
	b := one(t, f, a, "b")
	c := one(t, f, a, "c")
	x := one(t, f, 256, "x")
	tie(t, f, b, x, c, 256)
	tie(t, f, c, x)
	tie(t, f, x, a)
	tie(t, f, 256, x)
	reports(t, f, 256,
		Row{256, 0, 1, "", 5, 0, 0, 6, 0},
		Row{a, 1, 1, "a", 3, 0, 0, 4, 0},
		Row{b, 2, 1, "b", 1, 0, 0, 3, 0},
		Row{c, 2, 1, "c", 1, 0, 0, 1, 0},
		Row{x, 1, 1, "x", 1, 0, 0, 1, 0},
	)
	is(t, "Untie", refs.Untie(of(t, f, b), of(t, f, c)), api.OK)
	is(t, "Remove", f.Remove(x), api.OK)
	reports(t, f, a, Row{a, 0, 1, "a", 3, 0, 0, 1, 0}, Row{b, 1, 1, "b", 1, 0, 0, 1, 0}, Row{c, 1, 1, "c", 1, 0, 0, 0, 0})
}

// Both lists count, as far as the entries are to be run yet.
func TestReportOfCleans(t *testing.T) {
	f := fresh(t, 60)
	a := one(t, f, 256, "a")
	b := bytes(t, f, a, "b", 0)
	var ids []uint64
	for range 8 {
		ids = append(ids, register(t, f, b, false))
	}
	for range 4 {
		register(t, f, b, true)
	}
	register(t, f, a, true)
	register(t, f, 256, false)
	reports(t, f, 256, Row{256, 0, 1, "", 3, 1, 0, 0, 14}, Row{a, 1, 1, "a", 2, 1, 0, 0, 13}, Row{b, 2, 2, "b", 1, 1, 0, 0, 12})
	is(t, "Kill", tear.Kill(f, b, ids[2]), api.OK)
	_, e := tear.Run(f, b, ids[5])
	is(t, "Run", e, api.OK)
	reports(t, f, a, Row{a, 0, 1, "a", 2, 1, 0, 0, 11}, Row{b, 1, 2, "b", 1, 1, 0, 0, 10})
	_, e = tear.Clear(f, a)
	is(t, "Clear", e, api.OK)
	reports(t, f, 256, Row{256, 0, 1, "", 2, 0, 0, 0, 1}, Row{a, 1, 1, "a", 1, 0, 0, 0, 0})
}

// Whoever dies is told like others.
func TestReportOfWhoDies(t *testing.T) {
	f := fresh(t, 60)
	a := one(t, f, 256, "a")
	b := one(t, f, a, "b")
	of(t, f, a).Set(node.State, 1)
	reports(t, f, 256, Row{256, 0, 1, "", 3, 0, 0, 0, 0}, Row{a, 1, 1, "a", 2, 0, 0, 0, 0}, Row{b, 2, 1, "b", 1, 0, 0, 0, 0})
	leads(t, f, b, "a", "b")
}

// As many as there may be, as deep as may be.
func TestReportOfAChain(t *testing.T) {
	f := fresh(t, 400)
	h := api.Handle(256)
	wanted := []Row{{256, 0, 1, "", 256, 255, 255, 0, 0}}
	var path []string
	for i := 1; i < api.MaxNodes; i++ {
		h = bytes(t, f, h, "b", 1)
		wanted = append(wanted, Row{h, i, 2, "b", 256 - i, 256 - i, 256 - i, 0, 0})
		path = append(path, "b")
	}
	reports(t, f, 256, wanted...)
	leads(t, f, h, path...)
	none(t, f, append(path, "b")...)
}

// Behind a handle that comes again in another generation, all are told by those that they have.
func TestReportOfLaterHandles(t *testing.T) {
	f := fresh(t, 60)
	a := one(t, f, 256, "a")
	is(t, "Remove", f.Remove(a), api.OK)
	b := one(t, f, 256, "b")
	again, e := pool.Open(f.Arena.Clone())
	is(t, "Open", e, api.OK)
	for _, f := range []*pool.Forest{f, again} {
		reports(t, f, 256, Row{256, 0, 1, "", 2, 0, 0, 0, 0}, Row{513, 1, 1, "b", 1, 0, 0, 0, 0})
		leads(t, f, b, "b")
		if rows, e := Report(f, a); rows != nil || e != api.ErrHandle {
			t.Errorf("Report: %v, error %d", rows, e)
		}
	}
}

func TestReportAndPathRefuse(t *testing.T) {
	f := fresh(t, 60)
	a := one(t, f, 256, "a")
	for _, x := range []struct {
		f       *pool.Forest
		handles []api.Handle
		wanted  api.Errno
	}{{f, append(nobody, a+1, a+256), api.ErrHandle}, {nil, append(nobody, 256, a), api.ErrNil}} {
		for _, h := range x.handles {
			if rows, e := Report(x.f, h); len(rows) != 0 || e != x.wanted {
				t.Errorf("Report of %d: %v, error %d", h, rows, e)
			}
			if path, e := Path(x.f, h); len(path) != 0 || e != x.wanted {
				t.Errorf("Path of %d: %q, error %d", h, path, e)
			}
		}
	}
}

// An answer shares nothing with a later one.
func TestAnswersAreNew(t *testing.T) {
	f := fresh(t, 60)
	a := one(t, f, 256, "a")
	rows, _ := Report(f, a)
	path, _ := Path(f, a)
	lines := Lines(rows)
	rows[0].Name, path[0] = "x", "x"
	reports(t, f, a, Row{a, 0, 1, "a", 1, 0, 0, 0, 0})
	names(t, f, a, "a")
	if lines[0] != "257 1 a 1 0 0 0 0" {
		t.Errorf("the line is %q", lines[0])
	}
}

// P29.2

func TestPathAndLookup(t *testing.T) {
	f := fresh(t, 60)
	leads(t, f, 256)
	a := one(t, f, 256, "a")
	b := one(t, f, a, "b")
	c := bytes(t, f, b, "c", 3)
	d := bytes(t, f, c, "sixteen letters.", 3)
	e := one(t, f, a, "")
	g := one(t, f, e, "")
	h := one(t, f, g, " b/\x00\xff")
	leads(t, f, 256)
	leads(t, f, a, "a")
	leads(t, f, b, "a", "b")
	leads(t, f, c, "a", "b", "c")
	leads(t, f, d, "a", "b", "c", "sixteen letters.")
	leads(t, f, e, "a", "")
	leads(t, f, g, "a", "", "")
	leads(t, f, h, "a", "", "", " b/\x00\xff")
	for _, path := range [][]string{{""}, {"b"}, {"a", "a"}, {"a", "b", "c", "c"}, {"a", "B"}, {"a", "b", ""}, {"aa"}, {"a", "b\x00"}, {"a", "b", "c", "sixteen letters"}, {"a", "b", "c", "sixteen letters.."}, {"b", "a"}, {strings.Repeat("a", 5000)}} {
		none(t, f, path...)
	}
	// Whoever is moved is found there.
	is(t, "Move", f.Move(of(t, f, b).Where(), of(t, f, 256).Where()), api.OK)
	leads(t, f, d, "b", "c", "sixteen letters.")
	none(t, f, "a", "b")
}

// Of children of one name it is the first, be it that nothing is behind it.
func TestLookupTakesTheFirst(t *testing.T) {
	f := fresh(t, 60)
	x := one(t, f, 256, "x")
	a := one(t, f, 256, "a")
	second := one(t, f, 256, "a")
	b := one(t, f, second, "b")
	found(t, f, a, "a")
	none(t, f, "a", "b")
	names(t, f, second, "a")
	names(t, f, b, "a", "b")
	// The first child, not that of the least handle.
	is(t, "Move", f.Move(of(t, f, a).Where(), of(t, f, 256).Where()), api.OK)
	found(t, f, second, "a")
	found(t, f, b, "a", "b")
	// It isn't looked for below others.
	c := one(t, f, x, "c")
	none(t, f, "c")
	leads(t, f, c, "x", "c")
}

func TestLookupOfNil(t *testing.T) {
	for _, path := range [][]string{nil, {""}, {"a", "b"}} {
		if h, e := Lookup(nil, path...); h != 0 || e != api.ErrNil {
			t.Errorf("Lookup of %q: %d, error %d", path, h, e)
		}
	}
}

// P29.3

func TestLines(t *testing.T) {
	big := strings.Repeat(" ", 600)
	for _, x := range []struct {
		row    Row
		wanted string
	}{
		{Row{}, "0 0 . 0 0 0 0 0"},
		{Row{257, 1, 2, "b", 3, 4, 5, 6, 7}, "  257 2 b 3 4 5 6 7"},
		{Row{257, 2, 2, "", 3, 4, 5, 6, 7}, "    257 2 . 3 4 5 6 7"},
		{Row{1, 0, 0, ".", 0, 0, 0, 0, 0}, "1 0 . 0 0 0 0 0"},
		{Row{1, 0, 0, " ", 0, 0, 0, 0, 0}, "1 0   0 0 0 0 0"},
		{Row{1, 0, 0, "a b\n\xff", 0, 0, 0, 0, 0}, "1 0 a b\n\xff 0 0 0 0 0"},
		{Row{1, 299, 0, "a", 0, 0, 0, 0, 0}, big[2:] + "1 0 a 0 0 0 0 0"},
		{Row{1, 300, 0, "a", 0, 0, 0, 0, 0}, big + "1 0 a 0 0 0 0 0"},
		{Row{1, 301, 0, "a", 0, 0, 0, 0, 0}, big + "1 0 a 0 0 0 0 0"},
		{Row{1, math.MaxInt, 0, "a", 0, 0, 0, 0, 0}, big + "1 0 a 0 0 0 0 0"},
		{Row{1, -1, 0, "a", 0, 0, 0, 0, 0}, "1 0 a 0 0 0 0 0"},
		{Row{1, math.MinInt, 0, "a", 0, 0, 0, 0, 0}, "1 0 a 0 0 0 0 0"},
		{Row{math.MaxUint64, 0, math.MaxUint64, "a", -1, math.MaxInt, math.MinInt, 10, -20}, "18446744073709551615 18446744073709551615 a -1 9223372036854775807 -9223372036854775808 10 -20"},
		{Row{1, 0, 3, strings.Repeat("n", 100), 1, 1, 1, 1, 1}, "1 3 " + strings.Repeat("n", 100) + " 1 1 1 1 1"},
	} {
		rows := []Row{x.row, {Handle: 5}, x.row}
		if l := Lines(rows); !slices.Equal(l, []string{x.wanted, "5 0 . 0 0 0 0 0", x.wanted}) {
			t.Errorf("Lines of %v: %q, wanted %q", x.row, l, x.wanted)
		}
		if rows[0] != x.row || rows[1] != (Row{Handle: 5}) {
			t.Errorf("the rows are %v", rows)
		}
	}
	if l := append(Lines(nil), Lines([]Row{})...); len(l) != 0 {
		t.Errorf("the lines are %q", l)
	}
}
