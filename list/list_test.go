package list

import (
	"math"
	"slices"
	"testing"

	"millpond/api"
	"millpond/arena"
	"millpond/view"
)

// far: numbers that are no list, and no address, of any of these tests.
var far = []int{math.MinInt, math.MinInt + 1, -api.Page, -8, -2, -1, 4 * api.Page, api.Most, math.MaxInt / 8, math.MaxInt/8 + 1, math.MaxInt - 15, math.MaxInt - 1, math.MaxInt}

// is: a test ends, if an error is another one than was wanted.
func is(t *testing.T, what string, got, wanted api.Errno) {
	t.Helper()
	if got != wanted {
		t.Fatalf("%s: error %d, wanted %d", what, got, wanted)
	}
}

// three: an arena of the cap 4, whose pages but the last one are committed.
func three(t *testing.T) *arena.Arena {
	t.Helper()
	a := arena.New(4)
	is(t, "Commit", a.Commit(0, 3), api.OK)
	return a
}

// lists: those of a view.
func lists(t *testing.T, a *arena.Arena, at, size int) Lists {
	t.Helper()
	v, e := view.Of(a, at, size)
	is(t, "view.Of", e, api.OK)
	return Open(v)
}

// whole: all bytes of three pages.
func whole(t *testing.T, a *arena.Arena) string {
	t.Helper()
	s, e := a.Bytes(0, 3*api.Page)
	is(t, "Bytes", e, api.OK)
	return s
}

// tells: does a list tell these members, and none beside them of some other addresses?
func tells(t *testing.T, what string, l Lists, k int, wanted []int, others []int) {
	t.Helper()
	if got := l.All(k); !slices.Equal(got, wanted) {
		t.Fatalf("%s: list %d has %v, wanted %v", what, k, got, wanted)
	}
	first, ok := l.First(k)
	if ok != (len(wanted) > 0) || ok && first != wanted[0] || !ok && first != 0 {
		t.Fatalf("%s: the first one of list %d is %d, %v, wanted %v", what, k, first, ok, wanted)
	}
	for _, at := range others {
		if got := l.Has(k, at); got != slices.Contains(wanted, at) {
			t.Fatalf("%s: Has(%d, %d): %v", what, k, at, got)
		}
	}
}

func TestOpenAndLen(t *testing.T) {
	a := three(t)
	for size := range 100 {
		l := lists(t, a, 4090, size)
		if l.Len() != size/8 {
			t.Errorf("of %d bytes: %d lists", size, l.Len())
		}
		for k := range size / 8 {
			tells(t, "of noughts", l, k, nil, append(far, 0, 1, 4096))
		}
		if l.At() != 4090 || l.Size() != size || l.Cap() != 4 {
			t.Errorf("the lists of %d bytes aren't those of their view", size)
		}
	}
}

func TestExample(t *testing.T) {
	l := lists(t, three(t), 0, 16)
	is(t, "Add", l.Add(0, 4128), api.OK)
	is(t, "Add", l.Add(0, 4096), api.OK)
	tells(t, "both", l, 0, []int{4096, 4128}, []int{4095, 4096, 4097, 4112, 4128, 4144})
	tells(t, "the other list", l, 1, nil, []int{4096, 4128})
}

func TestAddAndRemoveInEachOrder(t *testing.T) {
	wanted := []int{8, 4090, 4106, 8192}
	for _, in := range orders(4) {
		for _, out := range orders(4) {
			l := lists(t, three(t), 12000, 8)
			var has []int
			for _, i := range in {
				is(t, "Add", l.Add(0, wanted[i]), api.OK)
				has = append(has, wanted[i])
				slices.Sort(has)
				tells(t, "added", l, 0, has, wanted)
			}
			for _, i := range out {
				is(t, "Remove", l.Remove(0, wanted[i]), api.OK)
				has = slices.DeleteFunc(has, func(at int) bool { return at == wanted[i] })
				tells(t, "removed", l, 0, has, wanted)
			}
		}
	}
}

// orders: all orders of the numbers below n.
func orders(n int) [][]int {
	if n == 0 {
		return [][]int{nil}
	}
	var all [][]int
	for _, o := range orders(n - 1) {
		for i := range n {
			all = append(all, slices.Insert(slices.Clone(o), i, n-1))
		}
	}
	return all
}

func TestManyListsAtOnce(t *testing.T) {
	a := three(t)
	l := lists(t, a, 100, 5*8+3)
	var places []int
	for at := 200; at+16 <= 3*api.Page; at += 16 + at%5*8 {
		places = append(places, at)
	}
	has := make([][]int, 5)
	owner := make(map[int]int) // of a place, the list of which it is a member, counted from 1 on
	// Each step's numbers follow from the one's ahead.
	x := 11
	for step := range 3000 {
		x = (x*1103515245 + 12345) % (1 << 31)
		at, k := places[x/64%len(places)], x/65536%5
		switch {
		case owner[at] == 0:
			is(t, "Remove of none", l.Remove(k, at), api.ErrNone)
			is(t, "Add", l.Add(k, at), api.OK)
			owner[at] = k + 1
			has[k] = append(has[k], at)
			slices.Sort(has[k])
		case owner[at] == k+1 && step%3 > 0:
			is(t, "Add of a member", l.Add(k, at), api.ErrThere)
		default:
			k = owner[at] - 1
			is(t, "Remove out of another list", l.Remove((k+1)%5, at), api.ErrNone)
			is(t, "Remove", l.Remove(k, at), api.OK)
			owner[at] = 0
			has[k] = slices.DeleteFunc(has[k], func(m int) bool { return m == at })
		}
		if step%50 == 49 {
			for k := range 5 {
				tells(t, "at once", l, k, has[k], places)
			}
		}
	}
}

func TestAddRefuses(t *testing.T) {
	a := three(t)
	l := lists(t, a, 0, 20)
	is(t, "Add", l.Add(1, 4096), api.OK)
	is(t, "Add", l.Add(1, 4112), api.OK)
	before := whole(t, a)
	for _, k := range append(far, 2, 3, 4096) {
		for _, at := range append(far, 0, 4096, 5000) {
			is(t, "Add to no list", l.Add(k, at), api.ErrRange)
		}
	}
	for k := range 2 {
		for _, at := range append(far, 0, 3*api.Page-15, 3*api.Page-1, 3*api.Page) {
			wanted := api.ErrRange
			if at < 1 {
				wanted = api.ErrArg
			}
			is(t, "Add of what isn't there", l.Add(k, at), wanted)
		}
	}
	is(t, "Add again", l.Add(1, 4096), api.ErrThere)
	is(t, "Add again", l.Add(1, 4112), api.ErrThere)
	if whole(t, a) != before {
		t.Error("a refused Add has changed something")
	}
	is(t, "Add of the last place", l.Add(0, 3*api.Page-16), api.OK)
	tells(t, "the last place", l, 0, []int{3*api.Page - 16}, []int{3*api.Page - 15})
}

func TestRemoveRefuses(t *testing.T) {
	a := three(t)
	l := lists(t, a, 0, 20)
	is(t, "Add", l.Add(1, 4096), api.OK)
	is(t, "Add", l.Add(1, 4160), api.OK)
	is(t, "Add", l.Add(0, 4128), api.OK)
	before := whole(t, a)
	for _, k := range append(far, 2, 3, 4096) {
		for _, at := range append(far, 0, 4096) {
			is(t, "Remove out of no list", l.Remove(k, at), api.ErrRange)
		}
	}
	for _, at := range append(far, 0, 1, 4095, 4097, 4112, 4128, 4176, 8192, 3*api.Page-1, 3*api.Page) {
		is(t, "Remove of none", l.Remove(1, at), api.ErrNone)
		if l.Has(1, at) {
			t.Errorf("Has(1, %d)", at)
		}
	}
	is(t, "Remove out of another list", l.Remove(0, 4096), api.ErrNone)
	if whole(t, a) != before {
		t.Error("a refused Remove has changed something")
	}
	is(t, "Remove", l.Remove(1, 4096), api.OK)
	is(t, "Remove again", l.Remove(1, 4096), api.ErrNone)
}

func TestNoSuchListTellsNothing(t *testing.T) {
	l := lists(t, three(t), 0, 23)
	is(t, "Add", l.Add(0, 4096), api.OK)
	is(t, "Add", l.Add(1, 4112), api.OK)
	for _, k := range append(far, 2, 3) {
		tells(t, "no list", l, k, nil, append(far, 0, 4096, 4112))
	}
}

func TestZeroLists(t *testing.T) {
	for _, l := range []Lists{{}, Open(view.View{})} {
		if l.Len() != 0 {
			t.Errorf("%d lists", l.Len())
		}
		for _, k := range append(far, 0, 1) {
			tells(t, "of the zero view", l, k, nil, append(far, 0, 1, 4096))
			for _, at := range append(far, 0, 1, 4096) {
				is(t, "Add", l.Add(k, at), api.ErrNil)
				is(t, "Remove", l.Remove(k, at), api.ErrNil)
			}
		}
	}
}

func TestOnlyHeadsAndMembersAreStoredIn(t *testing.T) {
	a := three(t)
	is(t, "Fill", a.Fill(0, 3*api.Page, 'x'), api.OK)
	l := lists(t, a, 4089, 29)
	is(t, "Fill", l.Fill(0, 24, 0), api.OK)
	members := []int{40, 56, 4200, 8185, 12272}
	for i, at := range members {
		is(t, "Add", l.Add(i%3, at), api.OK)
	}
	is(t, "Remove", l.Remove(1, 56), api.OK)
	all := []byte(whole(t, a))
	for at, b := range all {
		mine := at >= 4089 && at < 4089+24
		for _, m := range members {
			mine = mine || at >= m && at < m+16
		}
		if !mine && b != 'x' {
			t.Fatalf("the byte %d is %d", at, b)
		}
	}
}

func TestMembersOfAGreatArena(t *testing.T) {
	a := arena.New(api.MaxPages)
	is(t, "Commit", a.Commit(0, 1), api.OK)
	is(t, "Commit", a.Commit(api.MaxPages-2, 2), api.OK)
	l := lists(t, a, 8, 8)
	wanted := []int{1 << 10, api.Most - 2*api.Page, api.Most - api.Page - 8, api.Most - 16}
	for _, i := range []int{3, 1, 0, 2} {
		is(t, "Add", l.Add(0, wanted[i]), api.OK)
	}
	tells(t, "far apart", l, 0, wanted, wanted)
	is(t, "Add behind the end", l.Add(0, api.Most-15), api.ErrRange)
	is(t, "Add in a page that isn't there", l.Add(0, 1<<31), api.ErrRange)
	is(t, "Add half in a page that isn't there", l.Add(0, api.Page-8), api.ErrRange)
}

func TestTheLeastAddress(t *testing.T) {
	l := lists(t, three(t), 4096, 8)
	is(t, "Add", l.Add(0, 17), api.OK)
	is(t, "Add", l.Add(0, 1), api.OK)
	is(t, "Add again", l.Add(0, 1), api.ErrThere)
	tells(t, "from 1 on", l, 0, []int{1, 17}, []int{0, 1, 2, 16, 17})
	is(t, "Remove", l.Remove(0, 1), api.OK)
	is(t, "Remove of 0", l.Remove(0, 0), api.ErrNone)
	tells(t, "behind it", l, 0, []int{17}, []int{0, 1})
	is(t, "Remove", l.Remove(0, 17), api.OK)
	is(t, "Remove of 0", l.Remove(0, 0), api.ErrNone)
}

func TestListsAreInTheArenaAlone(t *testing.T) {
	a := three(t)
	l, again := lists(t, a, 64, 24), lists(t, a, 64, 24)
	is(t, "Add", l.Add(0, 4112), api.OK)
	is(t, "Add", again.Add(0, 4096), api.OK)
	is(t, "Add", l.Add(2, 4090-16), api.OK)
	twin := lists(t, a.Clone(), 64, 24)
	is(t, "Remove", l.Remove(0, 4112), api.OK)
	is(t, "Add", twin.Add(2, 8192), api.OK)
	for what, m := range map[string]Lists{"here": l, "opened ahead": again, "opened anew": lists(t, a, 64, 24)} {
		tells(t, what, m, 0, []int{4096}, []int{4112})
		tells(t, what, m, 1, nil, []int{4096})
		tells(t, what, m, 2, []int{4074}, []int{8192})
	}
	tells(t, "over a clone", twin, 0, []int{4096, 4112}, []int{4096, 4112})
	tells(t, "over a clone", twin, 2, []int{4074, 8192}, nil)
	tells(t, "of a part of the view", lists(t, a, 80, 8), 0, []int{4074}, nil)
}

func TestAllIsNewMemory(t *testing.T) {
	l := lists(t, three(t), 0, 8)
	is(t, "Add", l.Add(0, 4096), api.OK)
	is(t, "Add", l.Add(0, 8192), api.OK)
	one, two := l.All(0), l.All(0)
	one[0], one[1] = 7, 7
	if !slices.Equal(two, []int{4096, 8192}) {
		t.Errorf("another answer is %v", two)
	}
	tells(t, "behind it", l, 0, two, two)
}

func TestHeadsThatAreNotThereAnyMore(t *testing.T) {
	a := three(t)
	l := lists(t, a, api.Page-8, 16)
	is(t, "Add", l.Add(0, 100), api.OK)
	is(t, "Add", l.Add(1, 200), api.OK)
	is(t, "Decommit", a.Decommit(1, 1), api.OK)
	tells(t, "there", l, 0, []int{100}, []int{200})
	tells(t, "not there", l, 1, nil, []int{200})
	is(t, "Add", l.Add(1, 300), api.ErrRange)
	is(t, "Remove", l.Remove(1, 200), api.ErrRange)
}

// Nothing is promised of what is told then, but that each call ends.
func TestEachCallEndsWhateverStandsThere(t *testing.T) {
	for _, x := range []uint64{1, 4096, 4104, api.Most, math.MaxInt64, 1 << 63, math.MaxUint64, 0x0101010101010101} {
		a := three(t)
		for at := 0; at < 3*api.Page; at += 8 {
			is(t, "Store", a.Store(at, 8, x), api.OK)
		}
		l := lists(t, a, 0, 64)
		for _, at := range append(far, 0, 1, 4096, 4104) {
			l.Has(0, at)
			l.Add(1, at)
			l.Remove(2, at)
			l.First(3)
			l.All(4)
		}
	}
	// Members that lead to themselves, and to one another.
	a := three(t)
	l := lists(t, a, 0, 8)
	is(t, "Add", l.Add(0, 4096), api.OK)
	is(t, "Add", l.Add(0, 8192), api.OK)
	for _, to := range []uint64{4096, 8192} {
		is(t, "Store", a.Store(8192, 8, to), api.OK)
		l.All(0)
		l.Has(0, 10000)
		l.Add(0, 12000)
		l.Remove(0, 12000)
	}
}
