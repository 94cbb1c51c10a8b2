package census

import (
	"math"
	"slices"
	"testing"

	"millpond/api"
	"millpond/arena"
	"millpond/buddy"
)

// play is a buddy, and what its calls have answered: the orders of the runs that are taken, by their addresses.
type play struct {
	t     *testing.T
	b     *buddy.Buddy
	taken map[int]int
	x     int // the numbers of a step follow from the one's ahead
}

func (p *play) number(below int) int {
	p.x = (p.x*1103515245 + 12345) % (1 << 31)
	return p.x / 64 % below
}

// some: the address of a taken run, if there is one.
func (p *play) some() (int, bool) {
	var all []int
	for at := range p.taken {
		all = append(all, at)
	}
	if len(all) == 0 {
		return 0, false
	}
	slices.Sort(all)
	return all[p.number(len(all))], true
}

// states: what each page is, by what is taken and how far the buddy has grown.
func (p *play) states() []uint8 {
	states := make([]uint8, p.b.Cap())
	for page := range states {
		switch {
		case page < p.b.Base():
			states[page] = Own
		case page < p.b.Base()+p.b.Grown():
			states[page] = Free
		}
	}
	for at, order := range p.taken {
		for i := range 1 << order {
			states[at/api.Page+i] = Taken
		}
	}
	return states
}

// largest: free runs are put together, so there is one of an order wherever all pages are free in which one of it may lie.
func (p *play) largest(states []uint8) (int, bool) {
	given := states[p.b.Base():]
	for order := api.MaxOrder; order >= 0; order-- {
		for first := 0; first+1<<order <= len(given); first += 1 << order {
			if !slices.ContainsFunc(given[first:first+1<<order], func(state uint8) bool { return state != Free }) {
				return order, true
			}
		}
	}
	return 0, false
}

// given: is a run given, by an arena that is alike, but refuses nothing?
func (p *play) given(order int) bool {
	twin, e := buddy.Open(p.b.Clone())
	is(p.t, "Open", e, api.OK)
	twin.Refuse(math.MaxInt)
	_, e = twin.Alloc(order)
	if e != api.OK && e != api.ErrNoMemory {
		p.t.Fatalf("Alloc(%d): error %d", order, e)
	}
	return e == api.OK
}

// look: does all tell what it should?
func (p *play) look() {
	p.t.Helper()
	states := p.states()
	if got := States(p.b); !slices.Equal(got, states) {
		p.t.Fatalf("States: %v, wanted %v", got, states)
	}
	for what := range Taken + 2 {
		n := 0
		for _, state := range states {
			if state == what {
				n++
			}
		}
		if got := Count(p.b, what); got != n {
			p.t.Fatalf("Count(%d): %d, wanted %d", what, got, n)
		}
	}
	order, ok := p.largest(states)
	if got, some := Largest(p.b); got != order || some != ok {
		p.t.Fatalf("Largest: %d, %t, wanted %d, %t", got, some, order, ok)
	}
	for order := range api.MaxOrder + 1 {
		if got, wanted := Can(p.b, order), p.given(order); got != wanted {
			p.t.Fatalf("Can(%d): %t, wanted %t", order, got, wanted)
		}
	}
	if !Right(p.b) {
		p.t.Fatal("Right: false")
	}
}

// step: something is done to the buddy, with orders up to most.
func (p *play) step(most int) {
	switch n := p.number(16); {
	case n < 7:
		order := p.number(most + 1)
		can := Can(p.b, order)
		at, e := p.b.Alloc(order)
		if can != (e == api.OK) {
			p.t.Fatalf("Can(%d): %t, and Alloc's error is %d", order, can, e)
		}
		if can {
			p.taken[at] = order
		}
	case n < 13:
		if at, ok := p.some(); ok {
			is(p.t, "Free", p.b.Free(at), api.OK)
			delete(p.taken, at)
		}
	case n == 13:
		p.b.Grow(p.number(most + 1))
	case n == 14:
		p.b.Shrink()
	case n == 15:
		again, e := buddy.Open(p.b.Arena)
		is(p.t, "Open", e, api.OK)
		p.b = again
	}
}

func TestAsTheChapterSays(t *testing.T) {
	for _, c := range []struct{ cap, most, steps int }{{2, 1, 100}, {3, 2, 200}, {9, 3, 1000}, {18, 4, 1000}, {34, 5, 1000}, {100, 6, 600}, {1300, 10, 100}, {3841, 10, 80}} {
		p := &play{t: t, b: fresh(t, c.cap), taken: map[int]int{}}
		p.look()
		for range c.steps {
			p.step(c.most)
			p.look()
		}
		for at := range p.taken {
			is(t, "Free", p.b.Free(at), api.OK)
		}
		clear(p.taken)
		p.look()
		p.b.Shrink()
		p.look()
	}
}

// fresh: a new buddy of a new arena.
func fresh(t *testing.T, cap int) *buddy.Buddy {
	t.Helper()
	b, e := buddy.New(arena.New(cap))
	is(t, "New", e, api.OK)
	return b
}

// is: a test ends, if an error is another one than was wanted.
func is(t *testing.T, what string, got, wanted api.Errno) {
	t.Helper()
	if got != wanted {
		t.Fatalf("%s: error %d, wanted %d", what, got, wanted)
	}
}
