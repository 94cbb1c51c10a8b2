package arena

import (
	"math"
	"slices"
	"strings"
	"testing"

	"millpond/api"
	"millpond/bits"
)

// far: numbers that no arena has as a page, an address, or a count.
var far = []int{math.MinInt, math.MinInt + 1, -api.Page, -1, api.Most + 1, math.MaxInt - api.Page, math.MaxInt - 1, math.MaxInt}

// is: a test ends, if an error is another one than was wanted.
func is(t *testing.T, what string, got, wanted api.Errno) {
	t.Helper()
	if got != wanted {
		t.Fatalf("%s: error %d, wanted %d", what, got, wanted)
	}
}

// of: an arena with some pages committed.
func of(t *testing.T, cap int, pages ...int) *Arena {
	t.Helper()
	a := New(cap)
	for _, page := range pages {
		is(t, "Commit", a.Commit(page, 1), api.OK)
	}
	return a
}

// bytes: of some that are there.
func bytes(t *testing.T, a *Arena, at, n int) string {
	t.Helper()
	s, e := a.Bytes(at, n)
	is(t, "Bytes", e, api.OK)
	return s
}

// marked: bytes that are other ones at each place.
func marked(n int) string {
	out := make([]byte, n)
	for i := range out {
		out[i] = byte(1 + i%251)
	}
	return string(out)
}

// holds: are just these pages committed, as all calls tell?
func holds(t *testing.T, a *Arena, cap int, pages ...int) {
	t.Helper()
	wanted := bits.New(cap)
	for _, page := range pages {
		wanted, _ = wanted.With(page, 1)
	}
	if a.Cap() != cap || a.Committed() != len(pages) || !bits.Same(a.Pages(), wanted) {
		t.Fatalf("cap %d, %d committed, wanted cap %d and the pages %v", a.Cap(), a.Committed(), cap, pages)
	}
	for page := -1; page <= cap; page++ {
		if a.Has(page) != slices.Contains(pages, page) {
			t.Fatalf("Has(%d): %v, wanted the pages %v", page, a.Has(page), pages)
		}
	}
}

func TestNewHasNoPages(t *testing.T) {
	for _, c := range [][2]int{{0, 0}, {1, 1}, {20, 20}, {-1, 0}, {math.MinInt, 0}, {api.MaxPages, api.MaxPages}, {api.MaxPages + 1, api.MaxPages}, {math.MaxInt, api.MaxPages}} {
		a := New(c[0])
		if a.Cap() != c[1] || a.Committed() != 0 || a.Pages().Len() != c[1] || a.Has(0) || a.Has(c[1]-1) {
			t.Errorf("New(%d): cap %d, %d committed, set of length %d", c[0], a.Cap(), a.Committed(), a.Pages().Len())
		}
	}
}

func TestHasOfAnyNumber(t *testing.T) {
	a := New(api.MaxPages)
	is(t, "Commit", a.Commit(0, api.MaxPages), api.OK)
	for _, page := range append(far, api.MaxPages) {
		if a.Has(page) {
			t.Errorf("Has(%d)", page)
		}
	}
	if !a.Has(0) || !a.Has(api.MaxPages-1) || a.Committed() != api.MaxPages {
		t.Error("not all pages are committed")
	}
}

// subsets: of the pages of an arena of a cap.
func subsets(cap int) [][]int {
	var all [][]int
	for x := range 1 << cap {
		var pages []int
		for page := range cap {
			if x>>page&1 == 1 {
				pages = append(pages, page)
			}
		}
		all = append(all, pages)
	}
	return all
}

// expected: what Commit (in) or Decommit of a row answers, and which pages are committed then.
func expected(cap int, pages []int, from, n int, in bool) (api.Errno, []int) {
	if n < 1 {
		return api.ErrArg, pages
	}
	if from < 0 || from+n > cap {
		return api.ErrRange, pages
	}
	var after []int
	for page := range cap {
		touched := page >= from && page < from+n
		was := slices.Contains(pages, page)
		if touched && in && was {
			return api.ErrThere, pages
		}
		if touched && !in && !was {
			return api.ErrNone, pages
		}
		if was != touched {
			after = append(after, page)
		}
	}
	return api.OK, after
}

func TestCommitAndDecommitOfAllRows(t *testing.T) {
	const cap = 4
	for _, pages := range subsets(cap) {
		for from := -2; from <= cap+1; from++ {
			for n := -2; n <= cap+2; n++ {
				a := of(t, cap, pages...)
				e, after := expected(cap, pages, from, n, true)
				is(t, "Commit", a.Commit(from, n), e)
				holds(t, a, cap, after...)
				a = of(t, cap, pages...)
				e, after = expected(cap, pages, from, n, false)
				is(t, "Decommit", a.Decommit(from, n), e)
				holds(t, a, cap, after...)
			}
		}
	}
}

func TestCommitAndDecommitFromAfar(t *testing.T) {
	a := of(t, 4, 1, 2)
	for _, x := range far {
		few := api.ErrRange
		if x < 1 {
			few = api.ErrArg
		}
		is(t, "Commit from afar", a.Commit(x, 1), api.ErrRange)
		is(t, "Decommit from afar", a.Decommit(x, 1), api.ErrRange)
		is(t, "Commit of many", a.Commit(1, x), few)
		is(t, "Decommit of many", a.Decommit(1, x), few)
		is(t, "Commit of many from afar", a.Commit(x, x), few)
		is(t, "Decommit of none from afar", a.Decommit(x, 0), api.ErrArg)
	}
	holds(t, a, 4, 1, 2)
}

func TestPagesStayAsTheyWere(t *testing.T) {
	a := of(t, 8, 2, 3)
	before := a.Pages()
	is(t, "Commit", a.Commit(4, 2), api.OK)
	is(t, "Decommit", a.Decommit(2, 1), api.OK)
	if n, _ := before.Count(0, 8); n != 2 || !before.Has(2) || before.Has(4) {
		t.Error("a set that was told is another one now")
	}
	holds(t, a, 8, 3, 4, 5)
}

func TestCommittedPagesAreNought(t *testing.T) {
	a := of(t, 4, 0, 1, 2, 3)
	noughts := strings.Repeat("\x00", api.Page)
	if bytes(t, a, 0, 4*api.Page) != strings.Repeat(noughts, 4) {
		t.Error("a page that was committed isn't nought")
	}
	all := marked(4 * api.Page)
	is(t, "Put", a.Put(0, all), api.OK)
	is(t, "Decommit", a.Decommit(1, 2), api.OK)
	is(t, "Commit", a.Commit(1, 2), api.OK)
	if got := bytes(t, a, 0, 4*api.Page); got != all[:api.Page]+noughts+noughts+all[3*api.Page:] {
		t.Error("just the pages that were committed again should be nought")
	}
}

func TestRefuse(t *testing.T) {
	a := of(t, 9, 8)
	a.Refuse(2)
	is(t, "the first", a.Commit(0, 1), api.OK)
	is(t, "no pages", a.Commit(1, 0), api.ErrArg)
	is(t, "behind the cap", a.Commit(1, 9), api.ErrRange)
	is(t, "there", a.Commit(7, 2), api.ErrThere)
	is(t, "Decommit", a.Decommit(8, 1), api.OK)
	is(t, "the second", a.Commit(1, 2), api.OK)
	is(t, "there, ahead of the refused one", a.Commit(2, 2), api.ErrThere)
	is(t, "none there", a.Decommit(4, 1), api.ErrNone)
	is(t, "the refused one", a.Commit(3, 2), api.ErrNoMemory)
	holds(t, a, 9, 0, 1, 2)
	for page := 3; page < 9; page++ {
		is(t, "behind it", a.Commit(page, 1), api.OK)
	}
}

func TestRefuseBelowNought(t *testing.T) {
	for _, after := range []int{0, -1, math.MinInt} {
		a := New(2)
		a.Refuse(after)
		is(t, "the refused one", a.Commit(0, 1), api.ErrNoMemory)
		is(t, "behind it", a.Commit(0, 1), api.OK)
		is(t, "behind it", a.Commit(1, 1), api.OK)
	}
	a := New(64)
	a.Refuse(math.MaxInt)
	for page := range 64 {
		is(t, "Commit", a.Commit(page, 1), api.OK)
	}
}

func TestRefuseToldAnew(t *testing.T) {
	a := New(8)
	a.Refuse(0)
	a.Refuse(1)
	is(t, "one that still is", a.Commit(0, 1), api.OK)
	a.Refuse(1)
	is(t, "one that still is", a.Commit(1, 1), api.OK)
	is(t, "the refused one", a.Commit(2, 1), api.ErrNoMemory)
	is(t, "behind it", a.Commit(2, 1), api.OK)
	a.Refuse(0)
	is(t, "the refused one", a.Commit(3, 1), api.ErrNoMemory)
	is(t, "behind it", a.Commit(3, 1), api.OK)
}

func TestNumbersAreLowestFirst(t *testing.T) {
	a := of(t, 2, 1)
	is(t, "Store", a.Store(4096, 2, 258), api.OK)
	if got := bytes(t, a, 4096, 3); got != "\x02\x01\x00" {
		t.Errorf("258 is laid as %q", got)
	}
	_, e := a.Load(4095, 1)
	is(t, "Load ahead of the page", e, api.ErrRange)
	for _, c := range []struct {
		bytes int
		laid  string
		told  uint64
	}{
		{1, "\xef", 0xef}, {2, "\xef\xcd", 0xcdef}, {4, "\xef\xcd\xab\x89", 0x89abcdef},
		{8, "\xef\xcd\xab\x89\x67\x45\x23\x81", 0x8123456789abcdef},
	} {
		is(t, "Fill", a.Fill(4096, 16, 0xff), api.OK)
		is(t, "Store", a.Store(4099, c.bytes, 0x8123456789abcdef), api.OK)
		if got := bytes(t, a, 4096, 16); got != "\xff\xff\xff"+c.laid+strings.Repeat("\xff", 13-c.bytes) {
			t.Errorf("%d bytes are laid as %q", c.bytes, got)
		}
		if x, e := a.Load(4099, c.bytes); e != api.OK || x != c.told {
			t.Errorf("Load of %d bytes: %x, error %d", c.bytes, x, e)
		}
	}
}

func TestNumbersAcrossPages(t *testing.T) {
	for at := api.Page - 8; at <= api.Page; at++ {
		a := of(t, 3, 0, 1)
		if x, e := a.Load(at, 8); e != api.OK || x != 0 {
			t.Fatalf("Load(%d, 8): %x, error %d", at, x, e)
		}
		is(t, "Store", a.Store(at, 8, 0x0102030405060708), api.OK)
		if x, e := a.Load(at, 8); e != api.OK || x != 0x0102030405060708 {
			t.Fatalf("Load(%d, 8): %x, error %d", at, x, e)
		}
		if got := bytes(t, a, at-1, 10); got != "\x00\x08\x07\x06\x05\x04\x03\x02\x01\x00" {
			t.Fatalf("at %d is laid %q", at, got)
		}
	}
}

func TestNoughtsInNumbers(t *testing.T) {
	// Each page is new, or has bytes already.
	for _, marks := range [][]int{nil, {0}, {1}, {0, 1}} {
		for at := api.Page - 8; at <= api.Page; at++ {
			for _, x := range []uint64{0, 1, 0xff << 24, 0xff << 56, 0x00ff00ff00ff00ff, 0xff00ff00ff00ff00} {
				a := of(t, 2, 0, 1)
				wanted := make([]byte, 2*api.Page)
				for _, page := range marks {
					is(t, "Put", a.Put(page*api.Page, marked(api.Page)), api.OK)
					copy(wanted[page*api.Page:], marked(api.Page))
				}
				is(t, "Store", a.Store(at, 8, x), api.OK)
				for i := range 8 {
					wanted[at+i] = byte(x >> (8 * i))
				}
				if bytes(t, a, 0, 2*api.Page) != string(wanted) {
					t.Fatalf("with bytes in the pages %v, Store(%d, 8, %#x) lays other ones", marks, at, x)
				}
			}
		}
	}
}

func TestNumbersThatMayNotBe(t *testing.T) {
	a := of(t, 2, 0, 1)
	is(t, "Fill", a.Fill(0, 8192, 7), api.OK)
	for _, n := range append(far, 0, 3, 5, 6, 7, 9, 16, 64) {
		for _, at := range []int{0, 4096, -1, 8192, math.MaxInt, math.MinInt} {
			x, e := a.Load(at, n)
			is(t, "Load", e, api.ErrArg)
			is(t, "Store", a.Store(at, n, math.MaxUint64), api.ErrArg)
			if x != 0 {
				t.Errorf("Load(%d, %d): %d", at, n, x)
			}
		}
	}
	if bytes(t, a, 0, 8192) != strings.Repeat("\x07", 8192) {
		t.Error("what was refused has stored something")
	}
}

// gaps: an arena whose pages 1, 2 and 4 of 6 are committed, and marked.
func gaps(t *testing.T) *Arena {
	t.Helper()
	a := of(t, 6, 1, 2, 4)
	is(t, "Put", a.Put(4096, marked(8192)), api.OK)
	is(t, "Put", a.Put(16384, marked(4096)), api.OK)
	return a
}

// unmarked: is an arena of gaps another one now?
func unmarked(t *testing.T, a *Arena) bool {
	t.Helper()
	return bytes(t, a, 4096, 8192) != marked(8192) || bytes(t, a, 16384, 4096) != marked(4096)
}

// lies: are n bytes there, in an arena of gaps?
func lies(at, n int) bool {
	if n == 0 {
		return at >= 0 && at <= 6*api.Page
	}
	return at >= 4096 && at+n <= 12288 || at >= 16384 && at+n <= 20480
}

func TestNumbersThatAreNotThere(t *testing.T) {
	a := gaps(t)
	for edge := 0; edge <= 6*api.Page; edge += api.Page {
		for at := edge - 9; at <= edge+9; at++ {
			for _, n := range []int{1, 2, 4, 8} {
				x, e := a.Load(at, n)
				if lies(at, n) {
					is(t, "Load", e, api.OK)
					is(t, "Store", a.Store(at, n, x), api.OK)
					continue
				}
				is(t, "Load", e, api.ErrRange)
				is(t, "Store", a.Store(at, n, math.MaxUint64), api.ErrRange)
				if x != 0 {
					t.Errorf("Load(%d, %d): %d beside an error", at, n, x)
				}
			}
		}
	}
	for _, at := range far {
		_, e := a.Load(at, 8)
		is(t, "Load from afar", e, api.ErrRange)
		is(t, "Store from afar", a.Store(at, 1, 0), api.ErrRange)
	}
	if unmarked(t, a) {
		t.Error("what was refused has stored something, or another number than was told is stored")
	}
}

func TestBytesThatAreThereOrNot(t *testing.T) {
	a := gaps(t)
	all := strings.Repeat("\x00", 4096) + marked(8192) + strings.Repeat("\x00", 4096) + marked(4096) + strings.Repeat("\x00", 4096)
	for edge := 0; edge <= 6*api.Page; edge += api.Page {
		for at := edge - 3; at <= edge+3; at++ {
			for _, n := range []int{0, 1, 2, 3, 4, 5, 4095, 4096, 4097, 8191, 8192, 8193, 12288} {
				wanted, e := "", api.ErrRange
				if lies(at, n) {
					wanted, e = all[at:at+n], api.OK
				}
				got, f := a.Bytes(at, n)
				if f != e || got != wanted {
					t.Fatalf("Bytes(%d, %d): %d bytes, error %d", at, n, len(got), f)
				}
				// What is there is laid over itself, so that all stays marked.
				s := wanted
				if e != api.OK {
					s = strings.Repeat("x", n)
				}
				is(t, "Put", a.Put(at, s), e)
				if e != api.OK {
					is(t, "Fill", a.Fill(at, n, 'x'), e)
					is(t, "Copy there", a.Copy(at, 4096, n), e)
					is(t, "Copy from there", a.Copy(4096, at, n), e)
				}
				is(t, "Copy", a.Copy(at, at, n), e)
			}
		}
	}
	if unmarked(t, a) {
		t.Error("what was refused has stored something")
	}
}

func TestNoBytesAreThereUpToTheEnd(t *testing.T) {
	a := of(t, 2, 1)
	for _, at := range []int{0, 1, 4096, 8191, 8192} {
		is(t, "Put", a.Put(at, ""), api.OK)
		is(t, "Fill", a.Fill(at, 0, 1), api.OK)
		is(t, "Copy", a.Copy(at, 8192-at, 0), api.OK)
		if s := bytes(t, a, at, 0); s != "" {
			t.Errorf("no bytes: %q", s)
		}
	}
	for _, at := range append(far, 8193) {
		_, e := a.Bytes(at, 0)
		is(t, "Bytes", e, api.ErrRange)
		is(t, "Put", a.Put(at, ""), api.ErrRange)
		is(t, "Fill", a.Fill(at, 0, 1), api.ErrRange)
		is(t, "Copy there", a.Copy(at, 0, 0), api.ErrRange)
		is(t, "Copy from there", a.Copy(0, at, 0), api.ErrRange)
		is(t, "Copy", a.Copy(at, at, 0), api.ErrRange)
	}
	is(t, "none of none", New(0).Put(0, ""), api.OK)
	is(t, "none of none", New(0).Put(1, ""), api.ErrRange)
}

func TestCountsFromAfar(t *testing.T) {
	a := of(t, 2, 0, 1)
	is(t, "Fill", a.Fill(0, 8192, 7), api.OK)
	for _, n := range append(far, 8193, 4097) {
		for _, at := range []int{0, 4096, 8192} {
			if n == 4097 && at == 0 {
				continue
			}
			s, e := a.Bytes(at, n)
			is(t, "Bytes", e, api.ErrRange)
			is(t, "Fill", a.Fill(at, n, 1), api.ErrRange)
			is(t, "Copy there", a.Copy(at, 0, n), api.ErrRange)
			is(t, "Copy from there", a.Copy(0, at, n), api.ErrRange)
			is(t, "Copy", a.Copy(at, at, n), api.ErrRange)
			if s != "" {
				t.Errorf("Bytes(%d, %d): %d bytes beside an error", at, n, len(s))
			}
		}
	}
	if bytes(t, a, 0, 8192) != strings.Repeat("\x07", 8192) {
		t.Error("what was refused has stored something")
	}
}

func TestFill(t *testing.T) {
	for _, c := range [][2]int{{0, 1}, {4095, 1}, {4095, 2}, {4000, 200}, {0, 4096}, {4096, 8192}, {1, 12286}, {0, 12288}, {12288, 0}} {
		for _, b := range []byte{0, 1, 255} {
			for _, before := range []string{strings.Repeat("\x00", 12288), marked(12288)} {
				a := of(t, 3, 0, 1, 2)
				if before[0] != 0 {
					is(t, "Put", a.Put(0, before), api.OK)
				}
				is(t, "Fill", a.Fill(c[0], c[1], b), api.OK)
				wanted := before[:c[0]] + strings.Repeat(string([]byte{b}), c[1]) + before[c[0]+c[1]:]
				if bytes(t, a, 0, 12288) != wanted {
					t.Fatalf("Fill(%d, %d, %d) of %q..", c[0], c[1], b, before[:3])
				}
			}
		}
	}
}

func TestCopyOverItself(t *testing.T) {
	before := marked(12288)
	for _, n := range []int{0, 1, 100, 4095, 4096, 4097, 6000} {
		for _, from := range []int{0, 1, 3000, 4096, 6000, 12288 - n} {
			for _, to := range []int{0, 1, 2999, 3000, 3001, 4095, 4096, 6001, 12288 - n} {
				if max(from, to)+n > 12288 {
					continue
				}
				a := of(t, 3, 0, 1, 2)
				is(t, "Put", a.Put(0, before), api.OK)
				is(t, "Copy", a.Copy(to, from, n), api.OK)
				if bytes(t, a, 0, 12288) != before[:to]+before[from:from+n]+before[to+n:] {
					t.Fatalf("Copy(%d, %d, %d)", to, from, n)
				}
			}
		}
	}
}

func TestCopyOfNoughts(t *testing.T) {
	a := of(t, 3, 0, 1, 2)
	is(t, "Put", a.Put(0, marked(4096)), api.OK)
	is(t, "Copy", a.Copy(10, 4096, 20), api.OK)
	if bytes(t, a, 0, 4096) != marked(10)+strings.Repeat("\x00", 20)+marked(4096)[30:] {
		t.Error("noughts of a page in which nothing was stored aren't copied")
	}
}

func TestCloneIsApart(t *testing.T) {
	a := gaps(t)
	b := a.Clone()
	holds(t, b, 6, 1, 2, 4)
	if unmarked(t, b) {
		t.Fatal("the clone has other bytes")
	}
	is(t, "Fill", a.Fill(4096, 8192, 1), api.OK)
	is(t, "Decommit", a.Decommit(4, 1), api.OK)
	is(t, "Commit", a.Commit(5, 1), api.OK)
	holds(t, b, 6, 1, 2, 4)
	if unmarked(t, b) {
		t.Error("what was done to the first was done to the clone")
	}
	c := b.Clone()
	is(t, "Store", b.Store(4096, 8, 5), api.OK)
	is(t, "Decommit", b.Decommit(2, 1), api.OK)
	holds(t, c, 6, 1, 2, 4)
	if unmarked(t, c) {
		t.Error("what was done to the clone was done to its own one")
	}
	holds(t, a, 6, 1, 2, 5)
	if bytes(t, a, 4096, 8192) != strings.Repeat("\x01", 8192) {
		t.Error("what was done to the clone was done to the first")
	}
}

func TestCloneRefusesAlike(t *testing.T) {
	a := New(8)
	a.Refuse(2)
	is(t, "Commit", a.Commit(0, 1), api.OK)
	b := a.Clone()
	for i, one := range []*Arena{a, b} {
		is(t, "one that still is", one.Commit(1, 1), api.OK)
		is(t, "the refused one", one.Commit(2, 1), api.ErrNoMemory)
		is(t, "behind it", one.Commit(2, 1), api.OK)
		if i == 0 && b.Committed() != 1 {
			t.Error("the clone has the first one's pages")
		}
	}
	b.Refuse(0)
	is(t, "the clone alone refuses", a.Commit(3, 1), api.OK)
	is(t, "the clone alone refuses", b.Clone().Commit(3, 1), api.ErrNoMemory)
	is(t, "the clone alone refuses", b.Commit(3, 1), api.ErrNoMemory)
}

func TestNil(t *testing.T) {
	var a *Arena
	if a.Cap() != 0 || a.Committed() != 0 || a.Has(0) || a.Clone() != nil || !bits.Same(a.Pages(), bits.Set{}) {
		t.Error("nil tells something")
	}
	a.Refuse(0)
	for _, x := range []int{-1, 0, 1, math.MaxInt} {
		_, e := a.Load(x, x)
		_, f := a.Bytes(x, x)
		for _, e := range []api.Errno{e, f, a.Commit(x, x), a.Decommit(x, x), a.Store(x, x, 1), a.Put(x, ""), a.Put(x, "ab"), a.Fill(x, x, 1), a.Copy(x, x, x), a.Copy(x, 0, x)} {
			is(t, "of nil", e, api.ErrNil)
		}
	}
}

func TestLastBytesOfTheGreatest(t *testing.T) {
	a := New(api.MaxPages)
	is(t, "Commit", a.Commit(0, api.MaxPages), api.OK)
	is(t, "Store", a.Store(api.Most-8, 8, math.MaxUint64), api.OK)
	if x, e := a.Load(api.Most-1, 1); e != api.OK || x != 255 {
		t.Errorf("the last byte: %d, error %d", x, e)
	}
	is(t, "Store behind the end", a.Store(api.Most-7, 8, 0), api.ErrRange)
	is(t, "none at the end", a.Put(api.Most, ""), api.OK)
	is(t, "one at the end", a.Put(api.Most, "x"), api.ErrRange)
	is(t, "all are there", a.Copy(0, 0, api.Most), api.OK)
	is(t, "one more isn't", a.Copy(0, 0, api.Most+1), api.ErrRange)
	is(t, "Decommit", a.Decommit(500, 1), api.OK)
	is(t, "one of them isn't", a.Copy(0, 0, api.Most), api.ErrRange)
	is(t, "ahead of it", a.Copy(0, 0, 500*api.Page), api.OK)
	is(t, "up to its first byte", a.Copy(0, 0, 500*api.Page+1), api.ErrRange)
}

// dice: numbers that look like chance, and are the same each time.
type dice uint64

func (d *dice) below(n int) int {
	*d = *d*6364136223846793005 + 1442695040888963407
	return int(uint64(*d) >> 33 % uint64(n))
}

// play: some call, done to an arena and to the bytes that it should have (nil: not committed).
func (d *dice) play(t *testing.T, a *Arena, model [][]byte) {
	t.Helper()
	page, at, x := d.below(len(model)), d.below(api.Page-8), d.below(1<<31)
	held := model[page]
	switch d.below(6) {
	case 0:
		if held == nil {
			is(t, "Commit", a.Commit(page, 1), api.OK)
			model[page] = make([]byte, api.Page)
		}
	case 1:
		if held != nil && d.below(4) == 0 {
			is(t, "Decommit", a.Decommit(page, 1), api.OK)
			model[page] = nil
		}
	case 2:
		if held != nil {
			is(t, "Store", a.Store(page*api.Page+at, 4, uint64(x)), api.OK)
			copy(held[at:], []byte{byte(x), byte(x >> 8), byte(x >> 16), byte(x >> 24)})
		}
	case 3:
		if held != nil {
			is(t, "Put", a.Put(page*api.Page+at, "millpond"), api.OK)
			copy(held[at:], "millpond")
		}
	case 4:
		if held != nil {
			is(t, "Copy", a.Copy(page*api.Page, page*api.Page+at, api.Page-at), api.OK)
			copy(held, held[at:])
		}
	case 5:
		if held != nil {
			is(t, "Fill", a.Fill(page*api.Page+at, api.Page-at, 0), api.OK)
			clear(held[at:])
		}
	}
}

func TestWhatWasStoredIsLoaded(t *testing.T) {
	var d dice
	a, model := New(6), make([][]byte, 6)
	for range 3000 {
		d.play(t, a, model)
		for page, held := range model {
			s, e := a.Bytes(page*api.Page, api.Page)
			if held == nil && e != api.ErrRange || held != nil && (e != api.OK || s != string(held)) {
				t.Fatalf("the page %d tells other bytes than were stored: error %d", page, e)
			}
		}
	}
}
