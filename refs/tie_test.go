package refs

import (
	"math"
	"slices"
	"strings"
	"testing"

	"millpond/api"
	"millpond/arena"
	"millpond/buddy"
	"millpond/node"
	"millpond/recycler"
	"millpond/view"
)

// fresh: a new recycler, of an arena that has so many pages beside the buddy's first one and another one, whose first 64 bytes are the recycler's.
func fresh(t *testing.T, pages int) *recycler.Recycler {
	t.Helper()
	b, e := buddy.New(arena.New(pages + 2))
	is(t, "buddy.New", e, api.OK)
	at, e := b.Alloc(0)
	is(t, "Alloc", e, api.OK)
	v, e := view.Of(b.Arena, at, 64)
	is(t, "view.Of", e, api.OK)
	r, e := recycler.New(b, v)
	is(t, "recycler.New", e, api.OK)
	return r
}

// anew: the recycler over an arena where one stands already.
func anew(t *testing.T, a *arena.Arena) *recycler.Recycler {
	t.Helper()
	b, e := buddy.Open(a)
	is(t, "buddy.Open", e, api.OK)
	v, e := view.Of(a, b.Base()*api.Page, 64)
	is(t, "view.Of", e, api.OK)
	r, e := recycler.Open(b, v)
	is(t, "recycler.Open", e, api.OK)
	return r
}

// create: new nodes of these handles.
func create(t *testing.T, r *recycler.Recycler, handles ...uint64) []node.Node {
	t.Helper()
	var all []node.Node
	for _, h := range handles {
		n, e := node.Make(r, 0, api.Handle(h), "n")
		is(t, "node.Make", e, api.OK)
		all = append(all, n)
	}
	return all
}

// numbers: 1, 2 and so on, so many.
func numbers(many int) []uint64 {
	var all []uint64
	for i := range many {
		all = append(all, uint64(i+1))
	}
	return all
}

// nodes: so many, of the handles 1, 2 and so on.
func nodes(t *testing.T, many int) []node.Node {
	t.Helper()
	return create(t, fresh(t, many), numbers(many)...)
}

// again: the node that is found at a node's place, by a recycler.
func again(t *testing.T, r *recycler.Recycler, n node.Node) node.Node {
	t.Helper()
	m, e := node.At(r, n.Where())
	is(t, "node.At", e, api.OK)
	return m
}

// targets: does a node refer to just these?
func targets(t *testing.T, n node.Node, wanted ...Link) {
	t.Helper()
	unchanged(t, n.Arena, "Targets", func() {
		t.Helper()
		if all := Targets(n); !slices.Equal(all, wanted) {
			t.Fatalf("it refers to %v, wanted %v", all, wanted)
		}
	})
	tells(t, "the part Refs", Open(n.Part(node.Refs)), wanted...)
}

// holders: do just these refer to a node?
func holders(t *testing.T, n node.Node, wanted ...Link) {
	t.Helper()
	unchanged(t, n.Arena, "Holders", func() {
		t.Helper()
		if all := Holders(n); !slices.Equal(all, wanted) {
			t.Fatalf("it is held by %v, wanted %v", all, wanted)
		}
	})
	tells(t, "the part Backs", Open(n.Part(node.Backs)), wanted...)
}

// tie: a node refers to another one.
func tie(t *testing.T, from, to node.Node, serial uint64) {
	t.Helper()
	is(t, "Tie", Tie(from, to, serial), api.OK)
}

// refusedTie: Tie is refused, and changes nothing.
func refusedTie(t *testing.T, from, to node.Node, serial uint64, wanted api.Errno) {
	t.Helper()
	unchanged(t, from.Arena, "Tie", func() {
		t.Helper()
		is(t, "Tie", Tie(from, to, serial), wanted)
	})
}

// refusedUntie: Untie is refused, and changes nothing.
func refusedUntie(t *testing.T, from, to node.Node) {
	t.Helper()
	unchanged(t, from.Arena, "Untie", func() {
		t.Helper()
		is(t, "Untie", Untie(from, to), api.ErrNone)
	})
}

func TestExample(t *testing.T) {
	l := nodes(t, 3)
	a, b, c := l[0], l[1], l[2]
	tie(t, a, b, 1)
	tie(t, c, b, 2)
	holders(t, b, Link{1, 1}, Link{3, 2})
	targets(t, a, Link{2, 1})
	targets(t, c, Link{2, 2})
}

// P23.2

func TestANewNodeHasNoLinks(t *testing.T) {
	for _, n := range nodes(t, 3) {
		targets(t, n)
		holders(t, n)
	}
}

func TestTieAndUntie(t *testing.T) {
	l := nodes(t, 3)
	a, b, c := l[0], l[1], l[2]
	for _, serial := range append(slices.Clone(far), 1, 2, 3) {
		refusedUntie(t, a, b)
		tie(t, a, b, serial)
		targets(t, a, Link{2, serial})
		holders(t, b, Link{1, serial})
		targets(t, b)
		holders(t, a)
		refusedUntie(t, b, a)
		refusedUntie(t, a, c)
		refusedUntie(t, c, b)
		is(t, "Untie", Untie(a, b), api.OK)
		for _, n := range l {
			targets(t, n)
			holders(t, n)
		}
	}
}

func TestEachMayReferToTheOther(t *testing.T) {
	l := nodes(t, 2)
	a, b := l[0], l[1]
	tie(t, a, b, 7)
	tie(t, b, a, 5)
	targets(t, a, Link{2, 7})
	holders(t, a, Link{2, 5})
	targets(t, b, Link{1, 5})
	holders(t, b, Link{1, 7})
	is(t, "Untie", Untie(a, b), api.OK)
	refusedUntie(t, a, b)
	targets(t, a)
	holders(t, a, Link{2, 5})
	targets(t, b, Link{1, 5})
	holders(t, b)
}

func TestTargetsAndHoldersByRisingSerials(t *testing.T) {
	all := []Link{{2, 1}, {3, 2}, {4, 300}, {5, math.MaxUint64}}
	for _, order := range orders(all) {
		l := nodes(t, 5)
		for _, x := range order {
			tie(t, l[0], l[x.Who-1], x.Serial)
			tie(t, l[x.Who-1], l[0], x.Serial)
		}
		targets(t, l[0], all...)
		holders(t, l[0], all...)
		for i, x := range order {
			is(t, "Untie", Untie(l[0], l[x.Who-1]), api.OK)
			left := slices.DeleteFunc(slices.Clone(all), func(y Link) bool { return slices.Contains(order[:i+1], y) })
			targets(t, l[0], left...)
		}
		holders(t, l[0], all...)
	}
}

func TestTargetsAndHoldersOfOneSerial(t *testing.T) {
	for _, order := range orders([]Link{{2, 9}, {3, 9}, {4, 9}}) {
		l := nodes(t, 5)
		for _, x := range order {
			tie(t, l[0], l[x.Who-1], x.Serial)
			tie(t, l[x.Who-1], l[0], x.Serial)
		}
		tie(t, l[0], l[4], 8)
		targets(t, l[0], append([]Link{{5, 8}}, order...)...)
		holders(t, l[0], order...)
	}
}

func TestTheZeroNode(t *testing.T) {
	n := nodes(t, 1)[0]
	var zero node.Node
	for _, pair := range [][2]node.Node{{zero, zero}, {zero, n}, {n, zero}} {
		unchanged(t, n.Arena, "what is refused", func() {
			for _, serial := range []uint64{0, 1, math.MaxUint64} {
				is(t, "Tie", Tie(pair[0], pair[1], serial), api.ErrNil)
			}
			is(t, "Untie", Untie(pair[0], pair[1]), api.ErrNil)
		})
	}
	if len(Targets(zero)) != 0 || len(Holders(zero)) != 0 {
		t.Errorf("it refers to %v, and is held by %v", Targets(zero), Holders(zero))
	}
}

func TestTieRefuses(t *testing.T) {
	l := nodes(t, 2)
	a, b := l[0], l[1]
	refusedTie(t, a, b, 0, api.ErrArg)
	refusedTie(t, a, a, 0, api.ErrArg)
	refusedTie(t, a, a, 1, api.ErrCycle)
	tie(t, a, b, 5)
	refusedTie(t, a, b, 0, api.ErrArg)
	for _, serial := range []uint64{1, 4, 5, 6, math.MaxUint64} {
		refusedTie(t, a, b, serial, api.ErrThere)
		refusedTie(t, a, a, serial, api.ErrCycle)
		refusedTie(t, b, b, serial, api.ErrCycle)
	}
	refusedUntie(t, a, a)
	refusedUntie(t, b, b)
}

// Two values that stand for one node are the same, however they were told.
func TestTheSameIsTheSamePlace(t *testing.T) {
	r := fresh(t, 5)
	l := create(t, r, 1, 2)
	a, b := l[0], l[1]
	other := anew(t, r.Arena)
	for _, twin := range []node.Node{again(t, r, a), again(t, other, a)} {
		refusedTie(t, a, twin, 1, api.ErrCycle)
		refusedTie(t, twin, a, 1, api.ErrCycle)
		a.Set(node.Handle, 77)
		refusedTie(t, a, twin, 1, api.ErrCycle)
		a.Set(node.Handle, 1)
		tie(t, twin, b, 3)
		refusedTie(t, a, again(t, other, b), 4, api.ErrThere)
		targets(t, a, Link{2, 3})
		holders(t, b, Link{1, 3})
		is(t, "Untie", Untie(a, b), api.OK)
		refusedUntie(t, twin, b)
	}
	// That in a clone is another one, though it stands at the same address, with the same handle.
	twin := again(t, anew(t, r.Clone()), a)
	tie(t, a, twin, 6)
	targets(t, a, Link{1, 6})
	holders(t, twin, Link{1, 6})
	targets(t, twin)
	holders(t, a)
	refusedTie(t, a, twin, 7, api.ErrThere)
	is(t, "Untie", Untie(a, twin), api.OK)
	targets(t, a)
	holders(t, twin)
}

func TestRefsAreFull(t *testing.T) {
	l := nodes(t, 11)
	var wanted []Link
	for i := range 8 {
		tie(t, l[0], l[i+1], uint64(9-i))
		wanted = slices.Insert(wanted, 0, Link{uint64(i + 2), uint64(9 - i)})
	}
	for _, serial := range []uint64{1, 5, 100} {
		refusedTie(t, l[0], l[9], serial, api.ErrFull)
		// The errors that are named ahead of it are the answers yet.
		refusedTie(t, l[0], l[4], serial, api.ErrThere)
		refusedTie(t, l[0], l[0], serial, api.ErrCycle)
		refusedTie(t, l[0], l[9], 0, api.ErrArg)
	}
	targets(t, l[0], wanted...)
	holders(t, l[9])
	// Others are not full, nor is what holds it.
	tie(t, l[10], l[9], 1)
	tie(t, l[9], l[0], 1)
	is(t, "Untie", Untie(l[0], l[3]), api.OK)
	tie(t, l[0], l[9], 4)
	refusedTie(t, l[0], l[3], 7, api.ErrFull)
	holders(t, l[9], Link{11, 1}, Link{1, 4})
}

func TestBacksAreFull(t *testing.T) {
	l := nodes(t, 11)
	var wanted []Link
	for i := range 8 {
		tie(t, l[i+1], l[0], uint64(9-i))
		wanted = slices.Insert(wanted, 0, Link{uint64(i + 2), uint64(9 - i)})
	}
	for _, serial := range []uint64{1, 5, 100} {
		refusedTie(t, l[9], l[0], serial, api.ErrFull)
		refusedTie(t, l[4], l[0], serial, api.ErrThere)
		refusedTie(t, l[0], l[0], serial, api.ErrCycle)
		refusedTie(t, l[9], l[0], 0, api.ErrArg)
	}
	holders(t, l[0], wanted...)
	targets(t, l[9])
	tie(t, l[9], l[10], 1)
	tie(t, l[0], l[9], 1)
	is(t, "Untie", Untie(l[3], l[0]), api.OK)
	tie(t, l[9], l[0], 4)
	refusedTie(t, l[3], l[0], 7, api.ErrFull)
	targets(t, l[9], Link{11, 1}, Link{1, 4})
}

// halves: Refs of the first of two nodes, and Backs of the second one, with these serials of one another (0: none).
func halves(t *testing.T, ref, back uint64) (node.Node, node.Node) {
	t.Helper()
	l := nodes(t, 2)
	if ref != 0 {
		is(t, "Add", Open(l[0].Part(node.Refs)).Add(Link{2, ref}), api.OK)
	}
	if back != 0 {
		is(t, "Add", Open(l[1].Part(node.Backs)).Add(Link{1, back}), api.OK)
	}
	return l[0], l[1]
}

// A node refers to another one where both parts say so, of one serial.
func TestOneLinkIsNoReference(t *testing.T) {
	for _, h := range [][2]uint64{{5, 0}, {0, 5}, {5, 6}, {6, 5}} {
		for _, serial := range []uint64{1, 5, 6, 9} {
			a, b := halves(t, h[0], h[1])
			refusedUntie(t, a, b)
			tie(t, a, b, serial)
			refusedTie(t, a, b, 8, api.ErrThere)
			if !slices.Contains(Targets(a), Link{2, serial}) || !slices.Contains(Holders(b), Link{1, serial}) {
				t.Fatalf("it refers to %v, and is held by %v", Targets(a), Holders(b))
			}
			is(t, "Untie", Untie(a, b), api.OK)
			refusedUntie(t, a, b)
		}
	}
	a, b := halves(t, 5, 5)
	refusedTie(t, a, b, 1, api.ErrThere)
	is(t, "Untie", Untie(a, b), api.OK)
	targets(t, a)
	holders(t, b)
}

// Parts that hold links of nobody are full, too.
func TestFullOfOthers(t *testing.T) {
	for _, part := range []int{node.Refs, node.Backs} {
		l := nodes(t, 2)
		others := Open(map[int]node.Node{node.Refs: l[0], node.Backs: l[1]}[part].Part(part))
		for i := range uint64(8) {
			is(t, "Add", others.Add(Link{100 + i, i + 1}), api.OK)
		}
		refusedTie(t, l[0], l[1], 1, api.ErrFull)
		is(t, "Drop", others.Drop(103), api.OK)
		tie(t, l[0], l[1], 4)
		refusedTie(t, l[0], l[1], 4, api.ErrThere)
	}
}

// Nodes that have one handle are others, though links don't tell them apart.
func TestNodesOfOneHandle(t *testing.T) {
	l := create(t, fresh(t, 6), 1, 7, 7, 7)
	a, b, c, d := l[0], l[1], l[2], l[3]
	tie(t, a, b, 1)
	refusedUntie(t, a, c)
	tie(t, a, c, 2)
	tie(t, b, d, 3)
	tie(t, c, d, 3)
	targets(t, a, Link{7, 1}, Link{7, 2})
	holders(t, b, Link{1, 1})
	holders(t, c, Link{1, 2})
	holders(t, d, Link{7, 3}, Link{7, 3})
	refusedTie(t, a, b, 9, api.ErrThere)
	refusedTie(t, a, c, 9, api.ErrThere)
	is(t, "Untie", Untie(b, d), api.OK)
	is(t, "Untie", Untie(a, c), api.OK)
	refusedUntie(t, b, d)
	refusedUntie(t, a, c)
	targets(t, a, Link{7, 1})
	holders(t, c)
	targets(t, c, Link{7, 3})
	holders(t, d, Link{7, 3})
}

// A node's handle may be set to nought, of which no link is.
func TestTheHandleNought(t *testing.T) {
	l := nodes(t, 2)
	for i, n := range l {
		n.Set(node.Handle, 0)
		refusedTie(t, l[0], l[1], 1, api.ErrArg)
		refusedTie(t, l[1], l[0], 1, api.ErrArg)
		refusedTie(t, n, n, 1, api.ErrCycle)
		refusedUntie(t, l[0], l[1])
		n.Set(node.Handle, uint64(i+1))
	}
	tie(t, l[0], l[1], 1)
}

// P23.3

func TestTargetsAndHoldersAreNewMemory(t *testing.T) {
	l := nodes(t, 3)
	tie(t, l[0], l[1], 1)
	tie(t, l[2], l[1], 2)
	Targets(l[0])[0] = Link{}
	all := Holders(l[1])
	all[0], all[1] = Link{}, Link{}
	targets(t, l[0], Link{2, 1})
	holders(t, l[1], Link{1, 1}, Link{3, 2})
}

// What ties does stands in both nodes' own parts alone.
func TestOnlyThePartsAreStoredIn(t *testing.T) {
	l := nodes(t, 3)
	for _, n := range l {
		for _, part := range []int{node.Cleans, node.Pres, node.Keys} {
			v := n.Part(part)
			is(t, "Fill", v.Fill(0, v.Size(), 0xff), api.OK)
		}
		at, e := n.Alloc(3000, 8)
		is(t, "Alloc", e, api.OK)
		is(t, "Fill", n.Fill(at, 3000, 0xff), api.OK)
	}
	bare := func() string {
		twin := anew(t, l[0].Clone())
		for _, n := range l {
			for _, part := range []int{node.Refs, node.Backs} {
				v := again(t, twin, n).Part(part)
				is(t, "Fill", v.Fill(0, v.Size(), 0), api.OK)
			}
		}
		return whole(t, twin.Arena)
	}
	before := bare()
	for k, pair := range [][2]int{{0, 1}, {1, 2}, {2, 0}, {1, 0}, {0, 2}, {2, 1}} {
		tie(t, l[pair[0]], l[pair[1]], math.MaxUint64-uint64(k))
	}
	is(t, "Untie", Untie(l[1], l[2]), api.OK)
	if bare() != before {
		t.Error("another byte has changed")
	}
	for _, n := range l {
		if s, e := n.Part(node.Keys).Bytes(0, 128); s != strings.Repeat("\xff", 128) || e != api.OK {
			t.Errorf("its keys are %q, error %d", s, e)
		}
	}
}

// bond is who refers to whom, by numbers of nodes.
type bond struct {
	from, to int
	serial   uint64
}

// web is nodes, and who should refer to whom, in the order in which that came; the numbers of a step follow from the one's ahead.
type web struct {
	t     *testing.T
	all   []node.Node
	bonds []bond
	x     int
}

func (w *web) number(below int) int {
	w.x = (w.x*1103515245 + 12345) % (1 << 31)
	return w.x / 64 % below
}

// links: those of the bonds that are one's, by rising serials.
func (w *web) links(one func(b bond) (int, bool)) []Link {
	var all []Link
	for _, b := range w.bonds {
		if other, mine := one(b); mine {
			all = append(all, Link{uint64(other + 1), b.serial})
		}
	}
	slices.SortStableFunc(all, func(x, y Link) int { return int(x.Serial) - int(y.Serial) })
	return all
}

func (w *web) targets(i int) []Link {
	return w.links(func(b bond) (int, bool) { return b.to, b.from == i })
}

func (w *web) holders(i int) []Link {
	return w.links(func(b bond) (int, bool) { return b.from, b.to == i })
}

// find: where the bond of two nodes is; -1, where there is none.
func (w *web) find(from, to int) int {
	return slices.IndexFunc(w.bonds, func(b bond) bool { return b.from == from && b.to == to })
}

func (w *web) tie(from, to int) {
	serial := uint64(w.number(20))
	a, b := w.all[from], w.all[to]
	switch {
	case serial == 0:
		refusedTie(w.t, a, b, serial, api.ErrArg)
	case from == to:
		refusedTie(w.t, a, b, serial, api.ErrCycle)
	case w.find(from, to) >= 0:
		refusedTie(w.t, a, b, serial, api.ErrThere)
	case len(w.targets(from)) == 8 || len(w.holders(to)) == 8:
		refusedTie(w.t, a, b, serial, api.ErrFull)
	default:
		tie(w.t, a, b, serial)
		w.bonds = append(w.bonds, bond{from, to, serial})
	}
}

func (w *web) untie(from, to int) {
	i := w.find(from, to)
	if i < 0 {
		refusedUntie(w.t, w.all[from], w.all[to])
		return
	}
	is(w.t, "Untie", Untie(w.all[from], w.all[to]), api.OK)
	w.bonds = slices.Delete(w.bonds, i, i+1)
}

// clone: all nodes are those of a clone of the arena.
func (w *web) clone() {
	r := anew(w.t, w.all[0].Clone())
	for i, n := range w.all {
		w.all[i] = again(w.t, r, n)
	}
}

// look: do both parts of all nodes tell what they should?
func (w *web) look() {
	w.t.Helper()
	for i, n := range w.all {
		if !slices.Equal(Targets(n), w.targets(i)) || !slices.Equal(Holders(n), w.holders(i)) {
			w.t.Fatalf("the node %d refers to %v, and is held by %v, wanted %v, %v", i+1, Targets(n), Holders(n), w.targets(i), w.holders(i))
		}
	}
}

func TestWhoeverIsATargetHasAHolder(t *testing.T) {
	for _, many := range []int{1, 2, 5, 12, 20} {
		w := &web{t: t, all: nodes(t, many), x: many}
		for range 600 {
			from, to := w.number(many), w.number(many)
			switch k := w.number(20); {
			case k < 13:
				w.tie(from, to)
			case k < 19:
				w.untie(from, to)
			default:
				w.clone()
			}
			w.look()
		}
	}
}
