package audit

import (
	"testing"

	"millpond/api"
	"millpond/chunk"
	"millpond/node"
	"millpond/object"
	"millpond/pool"
	"millpond/refs"
)

// wood is a forest of the ground, a with objects in two chunks, the big one and the last one in the newest, its child b, a block, and c, to which b refers.
type wood struct {
	*pool.Forest
	a, b, c          api.Handle
	first, big, last int
}

// plant: a new one, that is right.
func plant(t *testing.T) wood {
	t.Helper()
	f := fresh(t, 60)
	w := wood{Forest: f}
	w.a = one(t, f, 256)
	w.b = bytes(t, f, w.a, 100)
	w.c = one(t, f, 256)
	w.first = alloc(t, f, w.a, 10, 8)
	w.big = alloc(t, f, w.a, 3500, 8)
	w.last = alloc(t, f, w.a, 10, 1)
	tie(t, f, w.b, w.c)
	is(t, "Charge", f.Charge(of(t, f, w.a).Where(), 50), api.OK)
	right(t, f)
	return w
}

// wrong: isn't it right any more?
func wrong(t *testing.T, w wood, what string) {
	t.Helper()
	same(t, w.Forest, "Right", func() {
		t.Helper()
		if Right(w.Forest) {
			t.Errorf("it is right, though %s", what)
		}
	})
}

// broken: isn't a forest right any more, when something was done there?
func broken(t *testing.T, what string, do func(w wood)) {
	t.Helper()
	w := plant(t)
	do(w)
	wrong(t, w, what)
}

// P30.3

func TestRightOfTheBuddy(t *testing.T) {
	broken(t, "a page is committed that isn't the buddy's", func(w wood) {
		is(t, "Commit", w.Commit(59, 1), api.OK)
	})
	broken(t, "a page of a free run isn't committed", func(w wood) {
		at, e := w.Buddy.Alloc(0)
		is(t, "Alloc", e, api.OK)
		is(t, "Free", w.Buddy.Free(at), api.OK)
		is(t, "Decommit", w.Decommit(w.Base()+w.Grown()-1, 1), api.OK)
	})
}

func TestRightOfWhoseChild(t *testing.T) {
	broken(t, "a node has no parent", func(w wood) {
		is(t, "Cut", w.Cut(of(t, w.Forest, w.c).Where()), api.OK)
	})
	broken(t, "a node with a child has no parent", func(w wood) {
		is(t, "Cut", w.Cut(of(t, w.Forest, w.a).Where()), api.OK)
	})
	broken(t, "a node doesn't know its parent", func(w wood) {
		of(t, w.Forest, w.c).Set(node.Parent, 0)
	})
	broken(t, "the ground doesn't know its last child", func(w wood) {
		of(t, w.Forest, w.a).Set(node.Next, 0)
	})
	broken(t, "a record is gone", func(w wood) {
		is(t, "Wipe", chunk.Wipe(w.Arena, of(t, w.Forest, w.c).Where()), api.OK)
	})
	broken(t, "there is no handle, not even the ground's", func(w wood) {
		is(t, "Fill", w.Fill((w.Base()+1)*api.Page, api.Page, 0), api.OK)
	})
	broken(t, "a node's chunks are gone, and its handle isn't", func(w wood) {
		at := of(t, w.Forest, w.c).Where()
		is(t, "Untie", refs.Untie(of(t, w.Forest, w.b), of(t, w.Forest, w.c)), api.OK)
		is(t, "Cut", w.Cut(at), api.OK)
		of(t, w.Forest, w.c).Clear()
	})
}

func TestRightOfChunks(t *testing.T) {
	newest := func(w wood) chunk.Chunk {
		c, some := of(t, w.Forest, w.a).Newest()
		if !some || c.Next == 0 {
			t.Fatal("a has one chunk")
		}
		return c
	}
	// A chunk without objects, so that its objects aren't what is wrong.
	empty := func(w wood) chunk.Chunk {
		is(t, "Free", of(t, w.Forest, w.a).Free(w.big), api.OK)
		c, e := of(t, w.Forest, w.a).Push(0)
		is(t, "Push", e, api.OK)
		right(t, w.Forest)
		return c
	}
	for what, owner := range map[string]func(w wood) uint64{
		"nobody":          func(w wood) uint64 { return 0 },
		"another one":     func(w wood) uint64 { return uint64(w.c) },
		"the ground":      func(w wood) uint64 { return 256 },
		"what is no node": func(w wood) uint64 { return 1000 },
	} {
		for _, which := range []func(w wood) chunk.Chunk{newest, empty} {
			broken(t, what+" owns a chunk of a's chain", func(w wood) {
				c := which(w)
				c.Owner = owner(w)
				is(t, "Write", chunk.Write(w.Arena, c), api.OK)
			})
		}
	}
	broken(t, "a chunk of a chain is cached", func(w wood) {
		is(t, "Give", w.Give(empty(w).At), api.OK)
	})
	broken(t, "a chunk of a chain was given back, and taken by another one", func(w wood) {
		at := empty(w).At
		is(t, "Give", w.Give(at), api.OK)
		c, e := w.Take(0, uint64(w.c))
		is(t, "Take", e, api.OK)
		if c.At != at {
			t.Fatalf("the chunk is at %d", c.At)
		}
	})
	broken(t, "two chains have a chunk", func(w wood) {
		c, _ := of(t, w.Forest, w.c).Newest()
		c.Next = empty(w).At
		is(t, "Write", chunk.Write(w.Arena, c), api.OK)
	})
	broken(t, "two chains end alike", func(w wood) {
		c, _ := of(t, w.Forest, w.c).Newest()
		c.Next = of(t, w.Forest, w.a).Where()
		is(t, "Write", chunk.Write(w.Arena, c), api.OK)
	})
	broken(t, "a chunk lies in another one of that chain", func(w wood) {
		c, e := of(t, w.Forest, w.a).Push(1)
		is(t, "Push", e, api.OK)
		is(t, "Write", chunk.Write(w.Arena, chunk.Chunk{At: c.At + api.Page, Owner: c.Owner}), api.OK)
		is(t, "Join", of(t, w.Forest, w.a).Join(c.At+api.Page), api.OK)
	})
	broken(t, "a chunk is longer than its run", func(w wood) {
		c := empty(w)
		c.Order = 10
		is(t, "Write", chunk.Write(w.Arena, c), api.OK)
	})
	broken(t, "a chunk has a page of another one", func(w wood) {
		c, _ := of(t, w.Forest, w.a).Newest()
		for c.Next != 0 {
			c, _ = chunk.Read(w.Arena, c.Next)
		}
		c.Order = 1
		is(t, "Write", chunk.Write(w.Arena, c), api.OK)
	})
}

// A run that is free, though its first bytes are as they were, is nobody's.
func TestRightOfAFreeRun(t *testing.T) {
	w := plant(t)
	is(t, "Free", of(t, w.Forest, w.a).Free(w.big), api.OK)
	w.Trim()
	w.Shrink()
	var both []int
	for len(both) < 2 {
		c, e := w.Take(0, 1000)
		is(t, "Take", e, api.OK)
		if page := c.At/api.Page - w.Base(); page%2 == len(both) {
			both = append(both, c.At)
		}
	}
	c, e := chunk.Read(w.Arena, both[1])
	is(t, "Read", e, api.OK)
	c.Owner = uint64(w.a)
	is(t, "Write", chunk.Write(w.Arena, c), api.OK)
	is(t, "Join", of(t, w.Forest, w.a).Join(c.At), api.OK)
	right(t, w.Forest)
	for _, at := range both {
		is(t, "Free", w.Buddy.Free(at), api.OK)
	}
	if got, e := chunk.Read(w.Arena, c.At); e != api.OK || got.Owner != uint64(w.a) {
		t.Fatalf("the chunk is %v, error %d", got, e)
	}
	wrong(t, w, "a chunk's run is free")
}

// rewrite: a's objects are these, the last one first; that one stands where it did, as the region knows it.
func rewrite(t *testing.T, w wood, all ...Span) {
	t.Helper()
	for i, s := range all {
		prev := 0
		if i+1 < len(all) {
			prev = all[i+1].At
		}
		is(t, "Write", object.Write(w.Arena, object.Object{At: s.At, Size: s.Size, Prev: prev}), api.OK)
	}
}

func TestRightOfSpans(t *testing.T) {
	w := plant(t)
	is(t, "Grow", w.Grow(3), api.OK)
	oldest := of(t, w.Forest, w.a).Where()
	newest, _ := of(t, w.Forest, w.a).Newest()
	if w.first != oldest+1040 || w.big != newest.At+48 || w.last != w.big+3500+16 {
		t.Fatalf("the objects are at %d, %d and %d", w.first, w.big, w.last)
	}
	first, last := Span{w.a, w.first, 10}, Span{w.a, w.last, 10}
	at := func(at, size int) Span { return Span{At: at, Size: size} }
	other := of(t, w.Forest, w.c).Where()
	content := of(t, w.Forest, w.b).Mark()
	for _, x := range []struct {
		what string
		ok   bool
		all  []Span
	}{
		{"nothing", true, []Span{last, at(w.big, 3500), first}},
		{"the last one ends with its chunk", true, []Span{at(w.last, newest.End()-w.last)}},
		{"the last one ends behind its chunk", false, []Span{at(w.last, newest.End()-w.last+1)}},
		{"the last one is very long", false, []Span{at(w.last, 1<<62)}},
		{"the last one is as long as may be", false, []Span{at(w.last, 1<<63-1)}},
		{"the first one ends with its chunk", true, []Span{last, at(w.first, oldest+api.Page-w.first)}},
		{"the first one ends behind its chunk", false, []Span{last, at(w.first, oldest+api.Page-w.first+1)}},
		{"one without bytes stands at its chunk's end", true, []Span{last, at(oldest+api.Page, 0), first}},
		{"one without bytes stands behind its chunk's end", false, []Span{last, at(oldest+api.Page+1, 0), first}},
		{"one is right behind another one", true, []Span{last, at(w.first+26, 10), first}},
		{"one's header is a byte over another one's bytes", false, []Span{last, at(w.first+25, 9), first}},
		{"one's bytes are a byte over another one's header", false, []Span{last, at(w.first+100, 10), at(w.first, 85)}},
		{"one's bytes end at another one's header", true, []Span{last, at(w.first+100, 10), at(w.first, 84)}},
		{"one lies in another one", false, []Span{last, at(w.first+100, 10), at(w.first, 200)}},
		{"two headers lie over one another", false, []Span{last, at(w.first+15, 0), at(w.first, 0)}},
		{"one without bytes is right behind another one", true, []Span{last, at(w.first+16, 0), at(w.first, 0)}},
		{"one's header begins where the front ends", true, []Span{last, at(oldest+api.Front+16, 10)}},
		{"one's header begins in the front", false, []Span{last, at(oldest+api.Front+15, 10)}},
		{"one stands in the record", false, []Span{last, at(oldest+500, 10)}},
		{"one's header begins where the newest chunk's header ends", true, []Span{last, at(newest.At+48, 10), first}},
		{"one's header begins in the newest chunk's header", false, []Span{last, at(newest.At+47, 10), first}},
		{"one's header begins ahead of the newest chunk", false, []Span{last, at(newest.At+8, 10), first}},
		{"one stands in another one's chunk", false, []Span{last, at(other+2000, 10), first}},
		{"one stands in another one's chunk, in its object", false, []Span{last, at(content+20, 10), first}},
		{"one is another one's object", false, []Span{last, at(content, 100), first}},
		{"one stands in a free page", false, []Span{last, at((w.Base()+w.Grown()-1)*api.Page+2000, 10), first}},
		{"one stands in the forest's own pages", false, []Span{last, at(w.Base()*api.Page+2000, 10), first}},
		{"one stands in the buddy's own pages", false, []Span{last, at(2000, 10), first}},
	} {
		w := plant(t)
		is(t, "Grow", w.Grow(3), api.OK)
		rewrite(t, w, x.all...)
		if x.ok {
			right(t, w.Forest)
		} else {
			wrong(t, w, x.what)
		}
	}
}

func TestRightOfSums(t *testing.T) {
	for _, x := range []struct {
		what  string
		field int
		by    uint64
	}{
		{"a sum is too much", node.Sum, 1},
		{"a sum is too little", node.Sum, 1<<64 - 1},
		{"an own charge is too much", node.Own, 1},
		{"an own charge is too little", node.Own, 1<<64 - 1},
	} {
		for _, which := range []func(w wood) api.Handle{func(w wood) api.Handle { return w.a }, func(w wood) api.Handle { return w.b }, func(w wood) api.Handle { return w.Ground() }} {
			broken(t, x.what, func(w wood) {
				n := of(t, w.Forest, which(w))
				n.Set(x.field, n.Get(x.field)+x.by)
			})
		}
	}
	broken(t, "the ground's own charge makes its sum too much", func(w wood) {
		n := of(t, w.Forest, 256)
		is(t, "SetLimit", w.SetLimit(n.Where(), 150), api.OK)
		right(t, w.Forest)
		n.Set(node.Own, 1)
		n.Set(node.Sum, 151)
	})
	broken(t, "a block is above its limit", func(w wood) {
		n := of(t, w.Forest, w.c)
		is(t, "SetLimit", w.SetLimit(n.Where(), 0), api.OK)
		right(t, w.Forest)
		n.Set(node.Own, 1)
		n.Set(node.Sum, 1)
		ground := of(t, w.Forest, 256)
		ground.Set(node.Sum, ground.Get(node.Sum)+1)
	})
	// The same is right of one without a limit.
	w := plant(t)
	n, ground := of(t, w.Forest, w.c), of(t, w.Forest, 256)
	n.Set(node.Own, 1)
	n.Set(node.Sum, 1)
	ground.Set(node.Sum, ground.Get(node.Sum)+1)
	right(t, w.Forest)
}

func TestRightOfLinks(t *testing.T) {
	add := func(w wood, h api.Handle, part int, who api.Handle, serial uint64) {
		t.Helper()
		is(t, "Add", refs.Open(of(t, w.Forest, h).Part(part)).Add(refs.Link{Who: uint64(who), Serial: serial}), api.OK)
	}
	drop := func(w wood, h api.Handle, part int, who api.Handle) {
		t.Helper()
		is(t, "Drop", refs.Open(of(t, w.Forest, h).Part(part)).Drop(uint64(who)), api.OK)
	}
	broken(t, "a target has no holder", func(w wood) { add(w, w.a, node.Refs, w.c, 9) })
	broken(t, "a holder has no target", func(w wood) { add(w, w.a, node.Backs, w.c, 9) })
	broken(t, "a target has the holder no more", func(w wood) { drop(w, w.c, node.Backs, w.b) })
	broken(t, "a holder has the target no more", func(w wood) { drop(w, w.b, node.Refs, w.c) })
	broken(t, "a target is of nothing", func(w wood) { add(w, w.a, node.Refs, 1000, 9) })
	broken(t, "a holder is of nothing", func(w wood) { add(w, w.a, node.Backs, 1000, 9) })
	broken(t, "the serials are others", func(w wood) {
		add(w, w.a, node.Refs, w.c, 9)
		add(w, w.c, node.Backs, w.a, 10)
	})
	broken(t, "the link is the other way round", func(w wood) {
		add(w, w.a, node.Refs, w.c, 9)
		add(w, w.c, node.Refs, w.a, 9)
	})
	broken(t, "a record was removed, and a link to it stayed", func(w wood) {
		is(t, "Remove", w.Remove(w.c), api.OK)
		right(t, w.Forest)
		add(w, w.b, node.Refs, w.c, 1)
	})
	w := plant(t)
	add(w, w.a, node.Refs, w.c, 9)
	add(w, w.c, node.Backs, w.a, 9)
	right(t, w.Forest)
}
