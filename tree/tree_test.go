package tree

import (
	"math"
	"slices"
	"strings"
	"testing"

	"millpond/api"
	"millpond/arena"
	"millpond/buddy"
	"millpond/node"
	"millpond/recycler"
	"millpond/view"
)

// far: numbers that are no place of any of these tests.
var far = []int{math.MinInt, math.MinInt + 4096, -4096, -32, -1, api.Most, math.MaxInt - 4095, math.MaxInt - 31, math.MaxInt}

// is: a test ends, if an error is another one than was wanted.
func is(t *testing.T, what string, got, wanted api.Errno) {
	t.Helper()
	if got != wanted {
		t.Fatalf("%s: error %d, wanted %d", what, got, wanted)
	}
}

// list: a test ends, if a list of addresses is another one than was wanted.
func list(t *testing.T, what string, got []int, wanted ...int) {
	t.Helper()
	if !slices.Equal(got, wanted) {
		t.Fatalf("%s: %v, wanted %v", what, got, wanted)
	}
}

// of: a view that is there.
func of(t *testing.T, a *arena.Arena, at, size int) view.View {
	t.Helper()
	v, e := view.Of(a, at, size)
	is(t, "view.Of", e, api.OK)
	return v
}

// fresh: the tree of a new recycler, of an arena that has so many pages beside the buddy's first one and another one, whose first 64 bytes are the recycler's.
func fresh(t *testing.T, pages int) Tree {
	t.Helper()
	b, e := buddy.New(arena.New(pages + 2))
	is(t, "buddy.New", e, api.OK)
	at, e := b.Alloc(0)
	is(t, "Alloc", e, api.OK)
	r, e := recycler.New(b, of(t, b.Arena, at, 64))
	is(t, "recycler.New", e, api.OK)
	return Of(r)
}

// anew: the tree over an arena where one stands already.
func anew(t *testing.T, a *arena.Arena) Tree {
	t.Helper()
	b, e := buddy.Open(a)
	is(t, "buddy.Open", e, api.OK)
	r, e := recycler.Open(b, of(t, a, b.Base()*api.Page, 64))
	is(t, "recycler.Open", e, api.OK)
	return Of(r)
}

// create: so many new nodes' addresses.
func create(t *testing.T, x Tree, many int) []int {
	t.Helper()
	var all []int
	for i := range many {
		n, e := node.Make(x.Recycler, 0, api.Handle(256+i), "n")
		is(t, "node.Make", e, api.OK)
		all = append(all, n.Where())
	}
	return all
}

// at: the node at an address.
func at(t *testing.T, x Tree, where int) node.Node {
	t.Helper()
	n, e := node.At(x.Recycler, where)
	is(t, "node.At", e, api.OK)
	return n
}

// add: children are added, one behind the other.
func add(t *testing.T, x Tree, parent int, children ...int) {
	t.Helper()
	for _, child := range children {
		is(t, "Add", x.Add(parent, child), api.OK)
	}
}

// whole: all bytes that are committed, page by page.
func whole(t *testing.T, a *arena.Arena) string {
	t.Helper()
	var all strings.Builder
	for first, n := range a.Pages().Rows() {
		s, e := a.Bytes(first*api.Page, n*api.Page)
		is(t, "Bytes", e, api.OK)
		all.WriteString(s)
	}
	return all.String()
}

// same: a call changes nothing.
func same(t *testing.T, a *arena.Arena, what string, call func()) {
	t.Helper()
	before := whole(t, a)
	call()
	if whole(t, a) != before {
		t.Fatalf("%s changes something", what)
	}
}

func TestExample(t *testing.T) {
	x := fresh(t, 20)
	l := create(t, x, 4)
	a, b, c, d := l[0], l[1], l[2], l[3]
	add(t, x, a, b, c)
	add(t, x, b, d)
	list(t, "Down", x.Down(a), a, b, d, c)
	list(t, "Up", x.Up(a), c, d, b, a)
}

// P19.1

func TestOf(t *testing.T) {
	x := fresh(t, 20)
	if Of(x.Recycler) != x || x.Keeps() != 16 || x.Grown() != 1 || x.Cap() != 22 {
		t.Error("its recycler is another one")
	}
	if Of(nil) != (Tree{}) {
		t.Error("of no recycler there is a tree")
	}
}

func TestANewNodeIsAlone(t *testing.T) {
	x := fresh(t, 20)
	for _, a := range create(t, x, 3) {
		if x.Parent(a) != 0 || !x.Under(a, a) {
			t.Errorf("the parent of %d is %d", a, x.Parent(a))
		}
		list(t, "Children", x.Children(a))
		list(t, "Down", x.Down(a), a)
		list(t, "Up", x.Up(a), a)
		is(t, "Cut", x.Cut(a), api.ErrNone)
	}
}

func TestAdd(t *testing.T) {
	x := fresh(t, 60)
	l := create(t, x, 12)
	for i, child := range l[1:] {
		is(t, "Add", x.Add(l[0], child), api.OK)
		list(t, "Children", x.Children(l[0]), l[1:i+2]...)
		if x.Parent(child) != l[0] || x.Parent(l[0]) != 0 {
			t.Fatalf("the parent of %d is %d", child, x.Parent(child))
		}
		list(t, "Children of a child", x.Children(child))
	}
	// The order is that in which they came, not that of the addresses.
	x = fresh(t, 60)
	l = create(t, x, 6)
	add(t, x, l[3], l[5], l[0], l[4], l[1], l[2])
	list(t, "Children", x.Children(l[3]), l[5], l[0], l[4], l[1], l[2])
}

// A node that has children may be added itself.
func TestAddOfASubtree(t *testing.T) {
	x := fresh(t, 60)
	l := create(t, x, 7)
	add(t, x, l[4], l[5], l[6])
	add(t, x, l[1], l[4])
	add(t, x, l[0], l[1], l[2])
	add(t, x, l[2], l[3])
	list(t, "Down", x.Down(l[0]), l[0], l[1], l[4], l[5], l[6], l[2], l[3])
	list(t, "Up", x.Up(l[0]), l[3], l[2], l[6], l[5], l[4], l[1], l[0])
	list(t, "Down", x.Down(l[1]), l[1], l[4], l[5], l[6])
}

func TestAddRefuses(t *testing.T) {
	x := fresh(t, 60)
	l := create(t, x, 6)
	a, b, c, d, e, gone := l[0], l[1], l[2], l[3], l[4], l[5]
	at(t, x, gone).Clear()
	add(t, x, a, b, c)
	add(t, x, b, d)
	same(t, x.Arena, "a refused Add", func() {
		for _, p := range append(far, 0, 4096, a, b, e, gone) {
			for _, n := range append(far, 0, 4096, a, b, e, gone) {
				is(t, "Add of the zero tree", Tree{}.Add(p, n), api.ErrNil)
			}
		}
		nowhere := map[int]api.Errno{0: api.ErrKind, 4096: api.ErrKind, a + 1: api.ErrKind, a + 32: api.ErrKind, gone: api.ErrKind}
		for _, w := range far {
			nowhere[w] = api.ErrRange
		}
		for w, wanted := range nowhere {
			for _, n := range append(far, 0, 4096, a, b, c, d, e, gone) {
				is(t, "Add to none", x.Add(w, n), wanted)
			}
			for _, p := range []int{a, b, c, d, e} {
				is(t, "Add of none", x.Add(p, w), wanted)
			}
		}
		for _, n := range []int{b, c, d} { // also where it is its child already, or it would be its own parent
			for _, p := range []int{a, b, c, d, e} {
				is(t, "Add of a child", x.Add(p, n), api.ErrThere)
			}
		}
		for _, p := range []int{a, b, c, d} {
			is(t, "Add to what is under it", x.Add(p, a), api.ErrCycle)
		}
		is(t, "Add to itself", x.Add(e, e), api.ErrCycle)
	})
	add(t, x, d, e)
	is(t, "Add to what is under it", x.Add(e, a), api.ErrCycle)
}

// Where both aren't there the parent's error is the answer.
func TestAddNamesTheParentsErrorFirst(t *testing.T) {
	x := fresh(t, 20)
	is(t, "Add", x.Add(-1, 0), api.ErrRange)
	is(t, "Add", x.Add(0, -1), api.ErrKind)
}

func TestCut(t *testing.T) {
	for many := 1; many <= 5; many++ {
		for k := range many {
			x := fresh(t, 60)
			l := create(t, x, many+2)
			top, below, children := l[0], l[1], l[2:]
			add(t, x, top, children...)
			add(t, x, children[k], below)
			is(t, "Cut", x.Cut(children[k]), api.OK)
			left := slices.Delete(slices.Clone(children), k, k+1)
			list(t, "Children", x.Children(top), left...)
			if x.Parent(children[k]) != 0 || x.Parent(below) != children[k] {
				t.Fatalf("the parent of %d is %d", children[k], x.Parent(children[k]))
			}
			for _, n := range left {
				if x.Parent(n) != top {
					t.Fatalf("the parent of %d is %d", n, x.Parent(n))
				}
			}
			list(t, "Down of what was cut", x.Down(children[k]), children[k], below)
			same(t, x.Arena, "a refused Cut", func() {
				is(t, "Cut", x.Cut(children[k]), api.ErrNone)
				is(t, "Cut", x.Cut(top), api.ErrNone)
			})
			// It comes back as the last one.
			add(t, x, top, children[k])
			list(t, "Children", x.Children(top), append(left, children[k])...)
		}
	}
}

// Cut takes back what Add did to the records.
func TestCutOfTheLastOneIsAsAhead(t *testing.T) {
	x := fresh(t, 60)
	l := create(t, x, 5)
	for _, child := range l[1:] {
		same(t, x.Arena, "Add and Cut", func() {
			add(t, x, l[0], child)
			is(t, "Cut", x.Cut(child), api.OK)
		})
		add(t, x, l[0], child)
	}
}

func TestCutWhereNoNodeIs(t *testing.T) {
	x := fresh(t, 20)
	l := create(t, x, 3)
	add(t, x, l[0], l[1])
	at(t, x, l[2]).Clear()
	same(t, x.Arena, "a refused Cut", func() {
		for _, w := range append(far, 0, l[0], l[1]) {
			is(t, "Cut of the zero tree", Tree{}.Cut(w), api.ErrNil)
		}
		for _, w := range far {
			is(t, "Cut of none", x.Cut(w), api.ErrRange)
		}
		for _, w := range []int{0, 4096, l[0] + 1, l[0] + 32, l[2]} {
			is(t, "Cut of none", x.Cut(w), api.ErrKind)
		}
	})
}

// nothing: of an address where no node is nothing is told.
func nothing(t *testing.T, x Tree, where int, others ...int) {
	t.Helper()
	if x.Parent(where) != 0 {
		t.Fatalf("the parent of %d is %d", where, x.Parent(where))
	}
	list(t, "Children", x.Children(where))
	list(t, "Down", x.Down(where))
	list(t, "Up", x.Up(where))
	for _, other := range append(others, where) {
		if x.Under(where, other) || x.Under(other, where) {
			t.Fatalf("%d is under %d, or above it", where, other)
		}
	}
}

func TestWhereNoNodeIs(t *testing.T) {
	x := fresh(t, 30)
	l := create(t, x, 4)
	add(t, x, l[0], l[1])
	add(t, x, l[2], l[3])
	n := at(t, x, l[1])
	_, e := n.Alloc(5000, 8)
	is(t, "Alloc", e, api.OK)
	later, _ := n.Newest() // a chunk of a node's that isn't its first one
	is(t, "Cut", x.Cut(l[3]), api.OK)
	at(t, x, l[3]).Clear()
	same(t, x.Arena, "asking", func() {
		for _, where := range append(far, 0, 1, 4096, l[0]+1, l[0]+16, l[0]+32, l[0]+1024, l[1]-1, l[3], later.At) {
			nothing(t, x, where, l[0], l[1], l[2])
		}
		for _, where := range append(far, 0, 4096, l[0], l[1]) {
			nothing(t, Tree{}, where, l[0], l[1], l[2])
		}
	})
}

// P19.2

func TestUnder(t *testing.T) {
	x := fresh(t, 60)
	l := create(t, x, 7)
	add(t, x, l[0], l[1], l[2])
	add(t, x, l[1], l[3], l[4])
	add(t, x, l[4], l[5])
	above := [][]int{{0}, {1, 0}, {2, 0}, {3, 1, 0}, {4, 1, 0}, {5, 4, 1, 0}, {6}}
	for i, n := range l {
		for k, top := range l {
			if wanted := slices.Contains(above[i], k); x.Under(n, top) != wanted {
				t.Errorf("Under of %d and %d isn't %t", i, k, wanted)
			}
		}
	}
	is(t, "Cut", x.Cut(l[1]), api.OK)
	if x.Under(l[5], l[0]) || !x.Under(l[5], l[1]) || x.Under(l[1], l[0]) || !x.Under(l[2], l[0]) {
		t.Error("what was cut is another one's yet")
	}
}

// A node isn't under what isn't there any more, though it was never cut from that.
func TestUnderOfWhatIsGone(t *testing.T) {
	x := fresh(t, 20)
	l := create(t, x, 2)
	add(t, x, l[0], l[1])
	at(t, x, l[0]).Clear()
	if x.Under(l[1], l[0]) || x.Under(l[0], l[1]) || !x.Under(l[1], l[1]) {
		t.Error("it is under what is gone")
	}
}

// As deep, and as wide, as many nodes go.
func TestDeepAndWide(t *testing.T) {
	const many = 600
	x := fresh(t, many)
	l := create(t, x, many)
	for i := many - 1; i > 0; i-- {
		add(t, x, l[i-1], l[i])
	}
	list(t, "Down", x.Down(l[0]), l...)
	slices.Reverse(l)
	list(t, "Up", x.Up(l[many-1]), l...)
	if !x.Under(l[0], l[many-1]) || x.Under(l[many-1], l[0]) {
		t.Error("the lowest one isn't under the highest one")
	}
	is(t, "Add", x.Add(l[0], l[many-1]), api.ErrCycle)
	for i := range many - 1 {
		is(t, "Cut", x.Cut(l[i]), api.OK)
	}
	add(t, x, l[0], l[1:]...)
	list(t, "Children", x.Children(l[0]), l[1:]...)
	list(t, "Down", x.Down(l[0]), l...)
	slices.Reverse(l)
	list(t, "Up", x.Up(l[many-1]), l...)
}

func TestAnswersAreNewMemory(t *testing.T) {
	x := fresh(t, 20)
	l := create(t, x, 4)
	add(t, x, l[0], l[1], l[2])
	add(t, x, l[1], l[3])
	for _, ask := range []func(int) []int{x.Children, x.Down, x.Up} {
		first, second := ask(l[0]), ask(l[0])
		kept := slices.Clone(second)
		clear(first[:cap(first)])
		list(t, "the other answer", second, kept...)
		list(t, "the next answer", ask(l[0]), kept...)
	}
}

// What is known stands in the records alone, and nothing else that stands in them is changed.
func TestOnlyTheRecordsAreStoredIn(t *testing.T) {
	x := fresh(t, 30)
	l := create(t, x, 4)
	for _, a := range l {
		n := at(t, x, a)
		for _, f := range []int{node.Limit, node.Own, node.Sum, node.Kind, node.State, node.Level, node.Block} {
			n.Set(f, math.MaxUint64-uint64(f))
		}
		for part := node.Cleans; part <= node.Backs; part++ {
			v := n.Part(part)
			is(t, "Fill", v.Fill(0, v.Size(), 'p'), api.OK)
		}
		_, e := n.Alloc(100, 8)
		is(t, "Alloc", e, api.OK)
	}
	before := whole(t, x.Arena)
	add(t, x, l[0], l[1], l[2], l[3])
	is(t, "Cut", x.Cut(l[2]), api.OK)
	add(t, x, l[1], l[2])
	for i, b := range []byte(whole(t, x.Arena)) {
		mine := slices.ContainsFunc(l, func(a int) bool { return i >= a+32 && i < a+1024 })
		if !mine && b != before[i] {
			t.Fatalf("the byte %d has changed", i)
		}
	}
	for i, a := range l {
		n := at(t, x, a)
		for _, f := range []int{node.Limit, node.Own, node.Sum, node.Kind, node.State, node.Level, node.Block} {
			if n.Get(f) != math.MaxUint64-uint64(f) {
				t.Errorf("the field %d of %d is %d", f, i, n.Get(f))
			}
		}
		for part := node.Cleans; part <= node.Backs; part++ {
			v := n.Part(part)
			if s, e := v.Bytes(0, v.Size()); s != strings.Repeat("p", v.Size()) || e != api.OK {
				t.Errorf("the part %d of %d is %q", part, i, s)
			}
		}
		if n.Get(node.Handle) != uint64(256+i) || n.Name() != "n" || len(n.Objects()) != 1 {
			t.Errorf("the node %d has changed", i)
		}
	}
	twin := anew(t, x.Clone())
	list(t, "Down of a clone", twin.Down(l[0]), l[0], l[1], l[2], l[3])
	is(t, "Cut", twin.Cut(l[1]), api.OK)
	list(t, "Down", x.Down(l[0]), l[0], l[1], l[2], l[3])
	list(t, "Down of a clone", twin.Down(l[0]), l[0], l[3])
}

// They stand in the fields that are named for them.
func TestTheFields(t *testing.T) {
	x := fresh(t, 20)
	l := create(t, x, 4)
	add(t, x, l[0], l[1], l[2], l[3])
	fields := func(all ...[]int) {
		t.Helper()
		for i, wanted := range all {
			n := at(t, x, l[i])
			for k, f := range []int{node.Parent, node.First, node.Last, node.Next, node.Prev} {
				if n.Get(f) != uint64(wanted[k]) {
					t.Errorf("the field %d of the node %d is %d, wanted %d", f, i, n.Get(f), wanted[k])
				}
			}
		}
	}
	fields([]int{0, l[1], l[3], 0, 0}, []int{l[0], 0, 0, l[2], 0}, []int{l[0], 0, 0, l[3], l[1]}, []int{l[0], 0, 0, 0, l[2]})
	is(t, "Cut", x.Cut(l[2]), api.OK)
	fields([]int{0, l[1], l[3], 0, 0}, []int{l[0], 0, 0, l[3], 0}, []int{0, 0, 0, 0, 0}, []int{l[0], 0, 0, 0, l[1]})
	is(t, "Cut", x.Cut(l[1]), api.OK)
	fields([]int{0, l[3], l[3], 0, 0}, []int{0, 0, 0, 0, 0}, []int{0, 0, 0, 0, 0}, []int{l[0], 0, 0, 0, 0})
	is(t, "Cut", x.Cut(l[3]), api.OK)
	fields([]int{0, 0, 0, 0, 0}, []int{0, 0, 0, 0, 0}, []int{0, 0, 0, 0, 0}, []int{0, 0, 0, 0, 0})
}

// Whatever stands in the records, each call ends.
func TestRingsEnd(t *testing.T) {
	x := fresh(t, 20)
	l := create(t, x, 3)
	add(t, x, l[0], l[1], l[2])
	at(t, x, l[2]).Set(node.Next, uint64(l[1]))
	at(t, x, l[0]).Set(node.Parent, uint64(l[1]))
	for _, a := range l {
		x.Children(a)
		x.Down(a)
		x.Up(a)
		for _, b := range l {
			x.Under(a, b)
			x.Add(a, b)
		}
		x.Cut(a)
	}
}

// model is nodes, their parents, and their children, as the chapter's words have them.
type model struct {
	all      []int // in the order in which they were made
	parent   map[int]int
	children map[int][]int
}

func (m *model) under(at, top int) bool {
	for ; at != top; at = m.parent[at] {
		if at == 0 {
			return false
		}
	}
	return true
}

func (m *model) add(parent, child int) api.Errno {
	if m.parent[child] != 0 {
		return api.ErrThere
	}
	if m.under(parent, child) {
		return api.ErrCycle
	}
	m.parent[child] = parent
	m.children[parent] = append(m.children[parent], child)
	return api.OK
}

func (m *model) cut(child int) api.Errno {
	parent := m.parent[child]
	if parent == 0 {
		return api.ErrNone
	}
	m.parent[child] = 0
	m.children[parent] = slices.DeleteFunc(m.children[parent], func(at int) bool { return at == child })
	return api.OK
}

func (m *model) down(at int) []int {
	all := []int{at}
	for _, child := range m.children[at] {
		all = append(all, m.down(child)...)
	}
	return all
}

func (m *model) up(at int) []int {
	var all []int
	for _, child := range slices.Backward(m.children[at]) {
		all = append(all, m.up(child)...)
	}
	return append(all, at)
}

// play is a tree and its model, of which the same is asked.
type play struct {
	t *testing.T
	x Tree
	m *model
	n int // the numbers of a step follow from the one's ahead
}

func (p *play) number(below int) int {
	p.n = (p.n*1103515245 + 12345) % (1 << 31)
	return p.n / 64 % below
}

func (p *play) make() {
	n, e := node.Make(p.x.Recycler, p.number(2), api.Handle(1+p.number(8)), "n")
	if e == api.ErrNoMemory {
		return
	}
	is(p.t, "node.Make", e, api.OK)
	p.m.all = append(p.m.all, n.Where())
}

// clear: a node that is alone goes.
func (p *play) clear(a int) {
	if p.m.parent[a] != 0 || len(p.m.children[a]) > 0 {
		return
	}
	at(p.t, p.x, a).Clear()
	p.m.all = slices.DeleteFunc(p.m.all, func(b int) bool { return b == a })
	nothing(p.t, p.x, a, p.m.all...)
}

func (p *play) step() {
	if len(p.m.all) < 2 {
		p.make()
		return
	}
	a, b := p.m.all[p.number(len(p.m.all))], p.m.all[p.number(len(p.m.all))]
	switch k := p.number(20); {
	case k < 2:
		p.make()
	case k == 2:
		p.clear(a)
	case k < 13:
		is(p.t, "Add", p.x.Add(a, b), p.m.add(a, b))
	case k < 18:
		is(p.t, "Cut", p.x.Cut(a), p.m.cut(a))
	case k == 18:
		at(p.t, p.x, a).Alloc(p.number(3000), 8)
	default:
		p.x = anew(p.t, p.x.Clone())
	}
}

// look: does the tree tell what it should?
func (p *play) look() {
	p.t.Helper()
	for _, a := range p.m.all {
		if p.x.Parent(a) != p.m.parent[a] {
			p.t.Fatalf("the parent of %d is %d, wanted %d", a, p.x.Parent(a), p.m.parent[a])
		}
		list(p.t, "Children", p.x.Children(a), p.m.children[a]...)
		down, up := p.x.Down(a), p.x.Up(a)
		list(p.t, "Down", down, p.m.down(a)...)
		list(p.t, "Up", up, p.m.up(a)...)
		p.once(a, down, up)
		for _, b := range p.m.all {
			if p.x.Under(a, b) != p.m.under(a, b) {
				p.t.Fatalf("Under of %d and %d is %t", a, b, p.x.Under(a, b))
			}
		}
	}
}

// P19.3

// once: each node of a subtree is told once, by Down behind its parent, by Up ahead of it; and none is under itself by way of another one.
func (p *play) once(top int, down, up []int) {
	p.t.Helper()
	for _, a := range p.m.all {
		i, k := slices.Index(down, a), slices.Index(up, a)
		if p.x.Under(a, top) != (i >= 0) || (i >= 0) != (k >= 0) {
			p.t.Fatalf("%d isn't told where it is under %d", a, top)
		}
		if i >= 0 && (slices.Contains(down[i+1:], a) || slices.Contains(up[k+1:], a)) {
			p.t.Fatalf("%d is told twice", a)
		}
		if i >= 0 && a != top && (!slices.Contains(down[:i], p.x.Parent(a)) || !slices.Contains(up[k+1:], p.x.Parent(a))) {
			p.t.Fatalf("the parent of %d comes at a wrong time: %v, %v", a, down, up)
		}
		if a != top && p.x.Under(a, top) && p.x.Under(top, a) {
			p.t.Fatalf("%d and %d are under each other", a, top)
		}
	}
}

func TestAsTheChapterSays(t *testing.T) {
	for _, pages := range []int{3, 6, 12, 24} {
		p := &play{t, fresh(t, pages), &model{parent: map[int]int{}, children: map[int][]int{}}, pages}
		for range 700 {
			p.step()
			p.look()
		}
	}
}
