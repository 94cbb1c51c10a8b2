package charge

import (
	"math"
	"slices"
	"strings"
	"testing"

	"millpond/api"
	"millpond/arena"
	"millpond/buddy"
	"millpond/node"
	"millpond/recycler"
	"millpond/tree"
	"millpond/view"
)

// far: numbers that are no place of any of these tests.
var far = []int{math.MinInt, math.MinInt + 4096, -4096, -32, -1, api.Most, math.MaxInt - 4095, math.MaxInt - 31, math.MaxInt}

// none: as a limit.
const none = -1

// is: a test ends, if an error is another one than was wanted.
func is(t *testing.T, what string, got, wanted api.Errno) {
	t.Helper()
	if got != wanted {
		t.Fatalf("%s: error %d, wanted %d", what, got, wanted)
	}
}

// of: a view that is there.
func of(t *testing.T, a *arena.Arena, at, size int) view.View {
	t.Helper()
	v, e := view.Of(a, at, size)
	is(t, "view.Of", e, api.OK)
	return v
}

// fresh: the ledger of a new recycler, of an arena that has so many pages beside the buddy's first one and another one, whose first 64 bytes are the recycler's.
func fresh(t *testing.T, pages int) Ledger {
	t.Helper()
	b, e := buddy.New(arena.New(pages + 2))
	is(t, "buddy.New", e, api.OK)
	at, e := b.Alloc(0)
	is(t, "Alloc", e, api.OK)
	r, e := recycler.New(b, of(t, b.Arena, at, 64))
	is(t, "recycler.New", e, api.OK)
	return Of(tree.Of(r))
}

// anew: the ledger over an arena where one stands already.
func anew(t *testing.T, a *arena.Arena) Ledger {
	t.Helper()
	b, e := buddy.Open(a)
	is(t, "buddy.Open", e, api.OK)
	r, e := recycler.Open(b, of(t, a, b.Base()*api.Page, 64))
	is(t, "recycler.Open", e, api.OK)
	return Of(tree.Of(r))
}

// create: so many new nodes' addresses.
func create(t *testing.T, x Ledger, many int) []int {
	t.Helper()
	var all []int
	for i := range many {
		n, e := node.Make(x.Recycler, 0, api.Handle(256+i), "n")
		is(t, "node.Make", e, api.OK)
		all = append(all, n.Where())
	}
	return all
}

// at: the node at an address.
func at(t *testing.T, x Ledger, where int) node.Node {
	t.Helper()
	n, e := node.At(x.Recycler, where)
	is(t, "node.At", e, api.OK)
	return n
}

// add: children are added, one behind the other.
func add(t *testing.T, x Ledger, parent int, children ...int) {
	t.Helper()
	for _, child := range children {
		is(t, "Add", x.Add(parent, child), api.OK)
	}
}

// limit: a node has a limit.
func limit(t *testing.T, x Ledger, at, n int) {
	t.Helper()
	is(t, "SetLimit", x.SetLimit(at, n), api.OK)
}

// charge: a node is charged.
func charge(t *testing.T, x Ledger, at, n int) {
	t.Helper()
	is(t, "Charge", x.Charge(at, n), api.OK)
}

// sums: have nodes these sums?
func sums(t *testing.T, x Ledger, nodes []int, wanted ...int) {
	t.Helper()
	for i, n := range wanted {
		if x.Sum(nodes[i]) != n {
			t.Fatalf("the sum of the node %d is %d, wanted %d", i, x.Sum(nodes[i]), n)
		}
	}
}

// limited: is a node's limit that one?
func limited(t *testing.T, x Ledger, at, wanted int) {
	t.Helper()
	n, some := x.Limit(at)
	if some != (wanted >= 0) || n != max(wanted, 0) {
		t.Fatalf("the limit is %d, %t, wanted %d", n, some, wanted)
	}
}

// fits: do these numbers fit at a node, if wanted, and else none of them?
func fits(t *testing.T, x Ledger, at int, wanted bool, nums ...int) {
	t.Helper()
	for _, n := range nums {
		if x.Fits(at, n) != wanted {
			t.Fatalf("Fits of %d: %t", n, !wanted)
		}
	}
}

// whole: all bytes that are committed, page by page.
func whole(t *testing.T, a *arena.Arena) string {
	t.Helper()
	var all strings.Builder
	for first, n := range a.Pages().Rows() {
		s, e := a.Bytes(first*api.Page, n*api.Page)
		is(t, "Bytes", e, api.OK)
		all.WriteString(s)
	}
	return all.String()
}

// same: a call changes nothing.
func same(t *testing.T, a *arena.Arena, what string, call func()) {
	t.Helper()
	before := whole(t, a)
	call()
	if whole(t, a) != before {
		t.Fatalf("%s changes something", what)
	}
}

// places: addresses where no node is, and the error that is told of them. One of the nodes is cleared for that.
func places(t *testing.T, x Ledger, cleared, other int) map[int]api.Errno {
	t.Helper()
	at(t, x, cleared).Clear()
	all := map[int]api.Errno{0: api.ErrKind, 4096: api.ErrKind, cleared: api.ErrKind, other + 1: api.ErrKind, other + 32: api.ErrKind}
	for _, w := range far {
		all[w] = api.ErrRange
	}
	return all
}

func TestExample(t *testing.T) {
	x := fresh(t, 20)
	l := create(t, x, 2)
	limit(t, x, l[0], 10)
	add(t, x, l[0], l[1])
	is(t, "Charge", x.Charge(l[1], 11), api.ErrLimit)
	is(t, "Charge", x.Charge(l[1], 10), api.OK)
	sums(t, x, l, 10, 10)
}

// P20.1

func TestOf(t *testing.T) {
	x := fresh(t, 20)
	l := create(t, x, 3)
	add(t, x, l[0], l[1], l[2])
	if Of(x.Tree) != x || Of(tree.Tree{}) != (Ledger{}) {
		t.Error("its tree is another one")
	}
	// What it doesn't answer itself its tree does, and that one's recycler.
	if x.Parent(l[1]) != l[0] || !x.Under(l[2], l[0]) || x.Keeps() != 16 ||
		!slices.Equal(x.Children(l[0]), l[1:]) || !slices.Equal(x.Down(l[0]), l) || !slices.Equal(x.Up(l[0]), []int{l[2], l[1], l[0]}) {
		t.Error("the tree tells something else")
	}
}

func TestANewNode(t *testing.T) {
	x := fresh(t, 20)
	n := create(t, x, 1)[0]
	if x.Own(n) != 0 || x.Sum(n) != 0 {
		t.Errorf("own %d, sum %d", x.Own(n), x.Sum(n))
	}
	limited(t, x, n, none)
	fits(t, x, n, true, 0, 1, api.Most)
}

func TestWhereNoNodeIs(t *testing.T) {
	x := fresh(t, 20)
	l := create(t, x, 4)
	add(t, x, l[0], l[1])
	charge(t, x, l[1], 5)
	charge(t, x, l[3], 6)
	limit(t, x, l[0], 7)
	limit(t, x, l[3], 8)
	gone := places(t, x, l[3], l[0])
	same(t, x.Arena, "what is asked of no node", func() {
		for w, wanted := range gone {
			if x.Own(w) != 0 || x.Sum(w) != 0 || x.Fits(w, 0) || x.Fits(w, 1) || x.Fits(w, -1) {
				t.Errorf("at %d: own %d, sum %d", w, x.Own(w), x.Sum(w))
			}
			limited(t, x, w, none)
			// At's error comes ahead of all others.
			for _, n := range []int{math.MinInt, -1, 0, 1, api.Most, api.Most + 1, math.MaxInt} {
				is(t, "SetLimit", x.SetLimit(w, n), wanted)
				is(t, "Charge", x.Charge(w, n), wanted)
			}
			is(t, "Cut", x.Cut(w), wanted)
			for _, n := range append(far, l...) {
				is(t, "Add", x.Add(w, n), wanted)
				is(t, "Move", x.Move(w, n), wanted)
			}
			for _, n := range l[:3] {
				is(t, "Add", x.Add(n, w), wanted)
				is(t, "Move", x.Move(n, w), wanted)
			}
		}
	})
	sums(t, x, l, 5, 5, 0)
}

func TestTheZeroLedger(t *testing.T) {
	var x Ledger
	for _, w := range append(far, 0, 4096, 8192) {
		if x.Own(w) != 0 || x.Sum(w) != 0 || x.Fits(w, 0) || x.Fits(w, 1) {
			t.Errorf("at %d: own %d, sum %d", w, x.Own(w), x.Sum(w))
		}
		limited(t, x, w, none)
		for _, n := range append(far, 0, 1, 4096) {
			is(t, "SetLimit", x.SetLimit(w, n), api.ErrNil)
			is(t, "Charge", x.Charge(w, n), api.ErrNil)
			is(t, "Add", x.Add(w, n), api.ErrNil)
			is(t, "Move", x.Move(w, n), api.ErrNil)
		}
		is(t, "Cut", x.Cut(w), api.ErrNil)
	}
}

func TestSetLimit(t *testing.T) {
	x := fresh(t, 20)
	l := create(t, x, 2)
	a := l[0]
	add(t, x, a, l[1])
	for _, n := range []int{0, 1, 10, 255, 256, 1<<31 - 1, 1 << 31, 1<<32 - 1, 1 << 32} {
		limit(t, x, a, n)
		limited(t, x, a, n)
		limited(t, x, l[1], none)
		fits(t, x, l[1], true, 0, n)
		fits(t, x, l[1], false, n+1)
		same(t, x.Arena, "a refused SetLimit", func() {
			for _, m := range []int{1<<32 + 1, 1 << 33, math.MaxInt} {
				is(t, "SetLimit", x.SetLimit(a, m), api.ErrArg)
			}
		})
		for _, m := range []int{-1, -2, math.MinInt} {
			limit(t, x, a, n)
			limit(t, x, a, m)
			limited(t, x, a, none)
			fits(t, x, l[1], true, n, api.Most)
		}
	}
}

// A limit is no less than the sum, its children's included.
func TestSetLimitBelowTheSum(t *testing.T) {
	x := fresh(t, 20)
	l := create(t, x, 3)
	add(t, x, l[0], l[1])
	add(t, x, l[1], l[2])
	charge(t, x, l[1], 3)
	charge(t, x, l[2], 4)
	for i, sum := range []int{7, 7, 4} {
		limit(t, x, l[i], 100)
		same(t, x.Arena, "a refused SetLimit", func() {
			for _, n := range []int{0, 1, sum - 1} {
				is(t, "SetLimit", x.SetLimit(l[i], n), api.ErrLimit)
			}
			is(t, "SetLimit", x.SetLimit(l[i], api.Most+1), api.ErrArg)
		})
		limit(t, x, l[i], sum)
		limited(t, x, l[i], sum)
		limit(t, x, l[i], sum+1)
		limit(t, x, l[i], none)
	}
	// What is too much is so ahead of a sum that is more.
	for range 3 {
		charge(t, x, l[0], api.Most)
	}
	is(t, "SetLimit", x.SetLimit(l[0], api.Most+1), api.ErrArg)
	is(t, "SetLimit", x.SetLimit(l[0], api.Most), api.ErrLimit)
	limit(t, x, l[0], none)
}

func TestFits(t *testing.T) {
	x := fresh(t, 20)
	l := create(t, x, 4)
	a, b, c, d := l[0], l[1], l[2], l[3]
	add(t, x, a, b, d)
	add(t, x, b, c)
	charge(t, x, c, 5)
	charge(t, x, d, 7)
	limit(t, x, a, 100) // of whose sum 12 are there
	same(t, x.Arena, "Fits", func() {
		for _, n := range l {
			fits(t, x, n, true, 0, 1, 87, 88)
			fits(t, x, n, false, 89, 1000, api.Most, api.Most+1, math.MaxInt, -1, -12, math.MinInt)
		}
	})
	limit(t, x, b, 25) // 5
	for _, n := range []int{b, c} {
		fits(t, x, n, true, 0, 20)
		fits(t, x, n, false, 21, 88, math.MaxInt, -1)
	}
	for _, n := range []int{a, d} {
		fits(t, x, n, true, 0, 88)
		fits(t, x, n, false, 89)
	}
	limit(t, x, c, 6) // 5
	fits(t, x, c, true, 0, 1)
	fits(t, x, c, false, 2)
	fits(t, x, b, true, 20)
	limit(t, x, d, 7) // 7
	fits(t, x, d, true, 0)
	fits(t, x, d, false, 1)
	for _, n := range l {
		limit(t, x, n, none)
	}
	for _, n := range l {
		fits(t, x, n, true, 0, api.Most)
		fits(t, x, n, false, api.Most+1, math.MaxInt, -1, math.MinInt)
	}
}

// P20.2

func TestCharge(t *testing.T) {
	x := fresh(t, 20)
	l := create(t, x, 5)
	a, b, c, d, e := l[0], l[1], l[2], l[3], l[4]
	add(t, x, a, b, d)
	add(t, x, b, c)
	own := make([]int, 5)
	step := func(i, n int, wanted ...int) {
		t.Helper()
		charge(t, x, l[i], n)
		own[i] += n
		sums(t, x, l, wanted...)
		for k, n := range own {
			if x.Own(l[k]) != n {
				t.Fatalf("the own charge of the node %d is %d, wanted %d", k, x.Own(l[k]), n)
			}
		}
	}
	step(2, 5, 5, 5, 5, 0, 0)
	step(0, 1, 6, 5, 5, 0, 0)
	step(3, 100, 106, 5, 5, 100, 0)
	step(1, 20, 126, 25, 5, 100, 0)
	step(4, 7, 126, 25, 5, 100, 7)
	step(2, -3, 123, 22, 2, 100, 7)
	step(2, 0, 123, 22, 2, 100, 7)
	step(2, -2, 121, 20, 0, 100, 7)
	step(0, -1, 120, 20, 0, 100, 7)
	step(3, -99, 21, 20, 0, 1, 7)
	same(t, x.Arena, "a refused Charge", func() {
		for i, at := range []int{a, b, c, d, e} {
			for _, n := range []int{-own[i] - 1, -1000, math.MinInt, math.MinInt + 1, api.Most + 1, math.MaxInt} {
				is(t, "Charge", x.Charge(at, n), api.ErrArg)
			}
		}
	})
}

func TestChargeAndLimits(t *testing.T) {
	x := fresh(t, 20)
	l := create(t, x, 4)
	add(t, x, l[0], l[1], l[3])
	add(t, x, l[1], l[2])
	for i, most := range []int{30, 20, 10} {
		limit(t, x, l[i], most)
	}
	refused := func(i int, n int, wanted api.Errno) {
		t.Helper()
		same(t, x.Arena, "a refused Charge", func() {
			t.Helper()
			is(t, "Charge", x.Charge(l[i], n), wanted)
		})
	}
	refused(2, 11, api.ErrLimit)
	charge(t, x, l[2], 10)
	refused(2, 1, api.ErrLimit)
	charge(t, x, l[2], 0)
	refused(1, 11, api.ErrLimit)
	charge(t, x, l[1], 10)
	refused(3, 11, api.ErrLimit)
	refused(0, 11, api.ErrLimit)
	charge(t, x, l[3], 10)
	sums(t, x, l, 30, 20, 10, 10)
	for i := range l {
		refused(i, 1, api.ErrLimit)
		refused(i, api.Most, api.ErrLimit)
		refused(i, api.Most+1, api.ErrArg)
		refused(i, -11, api.ErrArg)
		charge(t, x, l[i], 0)
	}
	charge(t, x, l[2], -1)
	refused(2, 2, api.ErrLimit)
	charge(t, x, l[3], 1)
	sums(t, x, l, 30, 19, 9, 11)
	refused(2, 1, api.ErrLimit) // there is room in it, and in the one above, but not in the highest one
}

// Without limits there may be more than one may be charged with at once.
func TestChargeOfVeryMuch(t *testing.T) {
	x := fresh(t, 20)
	l := create(t, x, 3)
	add(t, x, l[0], l[1])
	for i := range 5 {
		charge(t, x, l[1], api.Most)
		sums(t, x, l, (i+1)*api.Most, (i+1)*api.Most)
	}
	charge(t, x, l[1], -2*api.Most-1)
	sums(t, x, l, 3*api.Most-1, 3*api.Most-1)
	fits(t, x, l[1], true, api.Most)
	is(t, "Cut", x.Cut(l[1]), api.OK)
	sums(t, x, l, 0, 3*api.Most-1, 0)
	charge(t, x, l[1], 1-2*api.Most)
	add(t, x, l[0], l[1])
	add(t, x, l[2], l[0])
	sums(t, x, l, api.Most, api.Most, api.Most)
	charge(t, x, l[1], -api.Most)
	sums(t, x, l, 0, 0, 0)
}

// A sum of more than 2^32 bytes fits nowhere, as Fits is said to be of at most so many; but it may be moved, as of that only limits are asked.
func TestAddAndMoveOfVeryMuch(t *testing.T) {
	x := fresh(t, 20)
	l := create(t, x, 3)
	charge(t, x, l[2], api.Most)
	add(t, x, l[0], l[2])
	charge(t, x, l[2], 1)
	is(t, "Move", x.Move(l[2], l[1]), api.OK)
	sums(t, x, l, 0, api.Most+1, api.Most+1)
	is(t, "Cut", x.Cut(l[2]), api.OK)
	same(t, x.Arena, "a refused Add", func() {
		is(t, "Add", x.Add(l[0], l[2]), api.ErrLimit)
	})
}

// P20.3

func TestAddAndCut(t *testing.T) {
	x := fresh(t, 20)
	l := create(t, x, 5)
	for i, at := range l {
		charge(t, x, at, 1<<i)
	}
	add(t, x, l[1], l[2])
	sums(t, x, l, 1, 6, 4, 8, 16)
	add(t, x, l[0], l[3], l[1])
	sums(t, x, l, 15, 6, 4, 8, 16)
	add(t, x, l[2], l[4])
	sums(t, x, l, 31, 22, 20, 8, 16)
	is(t, "Cut", x.Cut(l[1]), api.OK)
	sums(t, x, l, 9, 22, 20, 8, 16)
	is(t, "Cut", x.Cut(l[4]), api.OK)
	sums(t, x, l, 9, 6, 4, 8, 16)
	add(t, x, l[3], l[1])
	sums(t, x, l, 15, 6, 4, 14, 16)
	for i, at := range l {
		if x.Own(at) != 1<<i {
			t.Errorf("the own charge of the node %d is %d", i, x.Own(at))
		}
	}
	if x.Parent(l[1]) != l[3] || x.Parent(l[4]) != 0 {
		t.Error("the parents are others")
	}
}

func TestAddRefuses(t *testing.T) {
	x := fresh(t, 20)
	l := create(t, x, 6)
	a, b, c, d, e, zero := l[0], l[1], l[2], l[3], l[4], l[5]
	add(t, x, a, b)
	add(t, x, b, c)
	charge(t, x, d, 11)
	charge(t, x, e, 10)
	limit(t, x, a, 10)
	same(t, x.Arena, "a refused Add", func() {
		for _, p := range []int{a, b, c} {
			is(t, "Add of too much", x.Add(p, d), api.ErrLimit)
			is(t, "Add to what is below", x.Add(p, a), api.ErrCycle)
			is(t, "Add of a child", x.Add(p, b), api.ErrThere)
		}
		is(t, "Add to itself", x.Add(d, d), api.ErrCycle)
	})
	add(t, x, c, e)
	sums(t, x, l, 10, 10, 10, 11, 10)
	// All errors of the tree's come ahead.
	is(t, "Add to what is below", x.Add(e, a), api.ErrCycle)
	is(t, "Add of a child", x.Add(d, e), api.ErrThere)
	same(t, x.Arena, "a refused Add", func() {
		is(t, "Add of too much", x.Add(e, d), api.ErrLimit)
	})
	// Of no bytes there is always room.
	for _, at := range []int{a, b, c, e} {
		limit(t, x, at, 10)
	}
	add(t, x, c, zero)
	sums(t, x, l, 10, 10, 10, 11, 10, 0)
	// The child's own limit is for itself.
	is(t, "Cut", x.Cut(zero), api.OK)
	limit(t, x, zero, 0)
	add(t, x, e, zero)
	is(t, "Charge", x.Charge(zero, 1), api.ErrLimit)
}

// Each node above has a limit of its own, and any of them refuses.
func TestAddAsksAllAbove(t *testing.T) {
	for k := range 4 {
		x := fresh(t, 20)
		l := create(t, x, 5)
		for i := range 3 {
			add(t, x, l[i], l[i+1])
		}
		charge(t, x, l[4], 5)
		limit(t, x, l[k], 4)
		for i := range 4 {
			wanted := api.OK
			if i >= k {
				wanted = api.ErrLimit
			}
			is(t, "Add", x.Add(l[i], l[4]), wanted)
			if wanted == api.OK {
				is(t, "Cut", x.Cut(l[4]), api.OK)
			}
		}
		limit(t, x, l[k], 5)
		add(t, x, l[3], l[4])
		sums(t, x, l, 5, 5, 5, 5, 5)
	}
}

func TestCutRefuses(t *testing.T) {
	x := fresh(t, 20)
	l := create(t, x, 3)
	add(t, x, l[0], l[1])
	charge(t, x, l[1], 5)
	charge(t, x, l[2], 6)
	same(t, x.Arena, "a refused Cut", func() {
		is(t, "Cut", x.Cut(l[0]), api.ErrNone)
		is(t, "Cut", x.Cut(l[2]), api.ErrNone)
	})
	is(t, "Cut", x.Cut(l[1]), api.OK)
	sums(t, x, l, 0, 5, 6)
	is(t, "Cut", x.Cut(l[1]), api.ErrNone)
	sums(t, x, l, 0, 5, 6)
}

func TestMove(t *testing.T) {
	x := fresh(t, 20)
	l := create(t, x, 7)
	for i, at := range l {
		charge(t, x, at, 1<<i)
	}
	add(t, x, l[0], l[1], l[2])
	add(t, x, l[1], l[3], l[4])
	add(t, x, l[5], l[6])
	sums(t, x, l, 31, 26, 4, 8, 16, 96, 64)
	step := func(child, parent int, wanted ...int) {
		t.Helper()
		is(t, "Move", x.Move(l[child], l[parent]), api.OK)
		children := x.Children(l[parent])
		if x.Parent(l[child]) != l[parent] || children[len(children)-1] != l[child] {
			t.Fatalf("%d isn't the last one of %v", l[child], children)
		}
		sums(t, x, l, wanted...)
	}
	step(3, 1, 31, 26, 4, 8, 16, 96, 64) // to its parent: it is the last one now
	step(3, 2, 31, 18, 12, 8, 16, 96, 64)
	step(3, 0, 31, 18, 4, 8, 16, 96, 64)
	step(1, 3, 31, 18, 4, 26, 16, 96, 64) // with what is below it
	step(1, 6, 13, 18, 4, 8, 16, 114, 82)
	step(4, 5, 13, 2, 4, 8, 16, 114, 66)
	step(6, 2, 79, 2, 70, 8, 16, 48, 66)
	if d := x.Down(l[0]); !slices.Equal(d, []int{l[0], l[2], l[6], l[1], l[3]}) {
		t.Errorf("Down: %v, of %v", d, l)
	}
	for i, at := range l {
		if x.Own(at) != 1<<i {
			t.Errorf("the own charge of the node %d is %d", i, x.Own(at))
		}
	}
}

func TestMoveRefuses(t *testing.T) {
	x := fresh(t, 20)
	l := create(t, x, 5)
	a, b, c, d, other := l[0], l[1], l[2], l[3], l[4]
	add(t, x, a, b, d)
	add(t, x, b, c)
	charge(t, x, c, 5)
	limit(t, x, other, 4)
	limit(t, x, d, 4)
	same(t, x.Arena, "a refused Move", func() {
		for _, to := range l { // also where it would be its own parent, or there is no room
			is(t, "Move of one without a parent", x.Move(a, to), api.ErrNone)
			is(t, "Move of one without a parent", x.Move(other, to), api.ErrNone)
		}
		is(t, "Move to itself", x.Move(b, b), api.ErrCycle)
		is(t, "Move to its child", x.Move(b, c), api.ErrCycle)
		for _, n := range []int{b, c} {
			is(t, "Move where no room is", x.Move(n, d), api.ErrLimit)
			is(t, "Move where no room is", x.Move(n, other), api.ErrLimit)
		}
	})
	// The error of the child is named ahead of the parent's.
	is(t, "Move", x.Move(-1, 0), api.ErrRange)
	is(t, "Move", x.Move(0, -1), api.ErrKind)
	is(t, "Move", x.Move(a, 0), api.ErrKind)
	// What would be its own parent is so ahead of a limit.
	limit(t, x, c, 5)
	is(t, "Move", x.Move(b, c), api.ErrCycle)
	limit(t, x, other, 5)
	is(t, "Move", x.Move(b, other), api.OK)
	sums(t, x, l, 0, 5, 5, 0, 5)
}

// Of those that are above it already nothing is asked, however full they are; of all others each one may refuse.
func TestMoveAsksOnlyThoseThatAreNew(t *testing.T) {
	x := fresh(t, 20)
	l := create(t, x, 7)
	// Two branches: 0 - 1 - 2 - 3, and 1 - 4 - 5; and 6 below 3.
	for i := range 3 {
		add(t, x, l[i], l[i+1])
	}
	add(t, x, l[1], l[4])
	add(t, x, l[4], l[5])
	add(t, x, l[3], l[6])
	charge(t, x, l[6], 5)
	for i := range 4 {
		limit(t, x, l[i], 5)
	}
	for k := 4; k < 6; k++ {
		limit(t, x, l[k], 4)
		same(t, x.Arena, "a refused Move", func() {
			is(t, "Move where no room is", x.Move(l[6], l[5]), api.ErrLimit)
		})
		limit(t, x, l[k], 5)
	}
	is(t, "Move", x.Move(l[6], l[5]), api.OK)
	sums(t, x, l, 5, 5, 0, 0, 5, 5, 5)
	for _, to := range []int{4, 1, 0, 2, 3, 5} {
		is(t, "Move", x.Move(l[6], l[to]), api.OK)
	}
	sums(t, x, l, 5, 5, 0, 0, 5, 5, 5)
	// One without bytes has room everywhere.
	charge(t, x, l[6], -5)
	for i := range 6 {
		limit(t, x, l[i], 0)
	}
	for _, to := range []int{0, 3, 4, 5} {
		is(t, "Move", x.Move(l[6], l[to]), api.OK)
	}
}

// What is known stands in the records alone: of numbers, those three, and the tree's own.
func TestOnlyTheRecordsAreStoredIn(t *testing.T) {
	x := fresh(t, 20)
	l := create(t, x, 3)
	before := whole(t, x.Arena)
	limit(t, x, l[0], 100)
	charge(t, x, l[0], 1)
	charge(t, x, l[1], 2)
	add(t, x, l[0], l[1], l[2])
	is(t, "Move", x.Move(l[1], l[2]), api.OK)
	is(t, "Cut", x.Cut(l[2]), api.OK)
	add(t, x, l[0], l[2])
	for i, b := range []byte(whole(t, x.Arena)) {
		mine := slices.ContainsFunc(l, func(a int) bool { return i >= a+32 && i < a+1024 })
		if !mine && b != before[i] {
			t.Fatalf("the byte %d has changed", i)
		}
	}
	for i, wanted := range [][]uint64{{1, 3}, {2, 2}, {0, 2}} {
		n := at(t, x, l[i])
		if n.Get(node.Own) != wanted[0] || n.Get(node.Sum) != wanted[1] {
			t.Errorf("the node %d has own %d, sum %d", i, n.Get(node.Own), n.Get(node.Sum))
		}
		if n.Get(node.Handle) != uint64(256+i) || n.Get(node.Kind) != 0 || n.Get(node.State) != 0 || n.Get(node.Level) != 0 || n.Get(node.Block) != 0 || n.Name() != "n" {
			t.Errorf("the node %d has other numbers", i)
		}
	}
	twin := anew(t, x.Clone())
	sums(t, twin, l, 3, 2, 2)
	limited(t, twin, l[0], 100)
	charge(t, twin, l[1], 97)
	is(t, "Charge", twin.Charge(l[1], 1), api.ErrLimit)
	sums(t, x, l, 3, 2, 2)
	sums(t, twin, l, 100, 99, 99)
}

// Whatever stands in the records, each call ends.
func TestRingsEnd(t *testing.T) {
	x := fresh(t, 20)
	l := create(t, x, 3)
	add(t, x, l[0], l[1])
	at(t, x, l[0]).Set(node.Parent, uint64(l[1]))
	for _, a := range l {
		x.Fits(a, 1)
		x.Charge(a, 1)
		for _, b := range l {
			x.Add(a, b)
			x.Move(a, b)
		}
		x.Cut(a)
	}
}
