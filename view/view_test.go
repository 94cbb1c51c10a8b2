package view

import (
	"math"
	"strings"
	"testing"

	"millpond/api"
	"millpond/arena"
)

// far: numbers that are no place, and no count, in any view of these tests.
var far = []int{math.MinInt, math.MinInt + 1, -api.Page, -1, 3 * api.Page, api.Most, math.MaxInt - api.Page, math.MaxInt - 1, math.MaxInt}

// is: a test ends, if an error is another one than was wanted.
func is(t *testing.T, what string, got, wanted api.Errno) {
	t.Helper()
	if got != wanted {
		t.Fatalf("%s: error %d, wanted %d", what, got, wanted)
	}
}

// marks: what stands in the two pages of two.
func marks() string {
	out := make([]byte, 2*api.Page)
	for i := range out {
		out[i] = byte(1 + i%251)
	}
	return string(out)
}

// two: an arena of the cap 4, whose pages 1 and 2 are committed, and marked.
func two(t *testing.T) *arena.Arena {
	t.Helper()
	a := arena.New(4)
	is(t, "Commit", a.Commit(1, 2), api.OK)
	is(t, "Put", a.Put(4096, marks()), api.OK)
	return a
}

// of: a view that is there.
func of(t *testing.T, a *arena.Arena, at, size int) View {
	t.Helper()
	v, e := Of(a, at, size)
	is(t, "Of", e, api.OK)
	return v
}

// tells: do both pages of an arena of two tell these bytes?
func tells(t *testing.T, what string, a *arena.Arena, wanted string) {
	t.Helper()
	got, e := a.Bytes(4096, 8192)
	if e != api.OK || got != wanted {
		t.Fatalf("%s: the arena tells other bytes than it should, error %d", what, e)
	}
}

func TestOfWhatIsThere(t *testing.T) {
	a := two(t)
	for _, c := range [][2]int{{4096, 1}, {4096, 8192}, {4100, 8}, {8190, 4}, {12287, 1}, {12288, 0}, {0, 0}, {100, 0}, {16384, 0}} {
		v, e := Of(a, c[0], c[1])
		if e != api.OK || v.At() != c[0] || v.Size() != c[1] || v.Arena != a {
			t.Errorf("Of(%d, %d): at %d, %d bytes, error %d", c[0], c[1], v.At(), v.Size(), e)
		}
	}
	tells(t, "Of", a, marks())
}

func TestOfWhatIsNot(t *testing.T) {
	a := two(t)
	wrong := [][2]int{{4095, 1}, {4095, 2}, {0, 1}, {4096, 8193}, {12288, 1}, {16384, 1}, {16385, 0}, {4096, -1}, {-1, 0}, {-1, 4098}}
	for _, x := range far {
		wrong = append(wrong, [2]int{x, 1}, [2]int{4096, x}, [2]int{x, x})
	}
	for _, c := range wrong {
		v, e := Of(a, c[0], c[1])
		if e != api.ErrRange || v != (View{}) {
			t.Errorf("Of(%d, %d): at %d, %d bytes, error %d", c[0], c[1], v.At(), v.Size(), e)
		}
		_, e = Of(nil, c[0], c[1])
		is(t, "Of nil", e, api.ErrNil)
	}
	v, e := Of(nil, 0, 0)
	if e != api.ErrNil || v != (View{}) {
		t.Errorf("Of(nil, 0, 0): error %d", e)
	}
}

func TestViewDoesWhatItsArenaDoes(t *testing.T) {
	a := two(t)
	v := of(t, a, 4096, 10)
	if v.Cap() != 4 || v.Committed() != 2 || !v.Has(1) || v.Has(0) || v.Pages().Len() != 4 || v.Clone().Committed() != 2 {
		t.Error("a view doesn't tell what its arena does")
	}
	is(t, "Commit", v.Commit(0, 1), api.OK)
	v.Refuse(0)
	is(t, "Commit that is refused", a.Commit(3, 1), api.ErrNoMemory)
	is(t, "Decommit", v.Decommit(2, 1), api.OK)
	if !a.Has(0) || a.Has(2) {
		t.Error("what is done by a view isn't done to its arena")
	}
}

func TestPart(t *testing.T) {
	a := two(t)
	v := of(t, a, 8000, 300)
	for _, c := range [][2]int{{0, 300}, {0, 0}, {300, 0}, {1, 299}, {299, 1}, {100, 100}} {
		p, e := v.Part(c[0], c[1])
		if e != api.OK || p.At() != 8000+c[0] || p.Size() != c[1] || p.Arena != a {
			t.Errorf("Part(%d, %d): at %d, %d bytes, error %d", c[0], c[1], p.At(), p.Size(), e)
		}
	}
	p, _ := v.Part(100, 100)
	q, e := p.Part(10, 20)
	if e != api.OK || q.At() != 8110 || q.Size() != 20 {
		t.Errorf("Part of a part: at %d, %d bytes, error %d", q.At(), q.Size(), e)
	}
	_, e = p.Part(10, 91)
	is(t, "Part out of a part", e, api.ErrRange)
	_, e = p.Part(-10, 20)
	is(t, "Part out of a part", e, api.ErrRange)
}

func TestPartThatIsNotWithin(t *testing.T) {
	v := of(t, two(t), 4196, 300)
	wrong := [][2]int{{0, 301}, {1, 300}, {300, 1}, {301, 0}, {301, -1}, {-1, 1}, {-1, 0}, {-1, 2}, {0, -1}, {5, -5}}
	for _, x := range far {
		wrong = append(wrong, [2]int{x, 1}, [2]int{x, 0}, [2]int{0, x}, [2]int{1, x}, [2]int{x, x})
	}
	for _, c := range wrong {
		p, e := v.Part(c[0], c[1])
		if e != api.ErrRange || p != (View{}) {
			t.Errorf("Part(%d, %d): at %d, %d bytes, error %d", c[0], c[1], p.At(), p.Size(), e)
		}
	}
}

func TestPartThatIsNotThereAnyMore(t *testing.T) {
	a := two(t)
	v := of(t, a, 8000, 300)
	is(t, "Decommit", a.Decommit(2, 1), api.OK)
	p, e := v.Part(100, 192)
	if e != api.ErrRange || p != (View{}) {
		t.Errorf("a part that is gone: at %d, %d bytes, error %d", p.At(), p.Size(), e)
	}
	_, e = v.Part(0, 193)
	is(t, "a part half of which is gone", e, api.ErrRange)
	_, e = v.Part(0, 192)
	is(t, "a part that is there", e, api.OK)
	_, e = v.Part(300, 0)
	is(t, "no bytes at the end", e, api.OK)
}

func TestNumbers(t *testing.T) {
	a := arena.New(1)
	is(t, "Commit", a.Commit(0, 1), api.OK)
	v := of(t, a, 100, 8)
	is(t, "Store", v.Store(0, 8, 1), api.OK)
	if s, _ := a.Bytes(99, 3); s != "\x00\x01\x00" {
		t.Errorf("laid is %q", s)
	}
	_, e := v.Load(1, 8)
	is(t, "Load", e, api.ErrRange)
	for _, n := range []int{1, 2, 4, 8} {
		for at := -9; at <= 17; at++ {
			wanted := api.ErrRange
			if at >= 0 && at+n <= 8 {
				wanted = api.OK
			}
			is(t, "Store", v.Store(at, n, 0x1122334455667788+uint64(at)), wanted)
			x, e := v.Load(at, n)
			is(t, "Load", e, wanted)
			if y, _ := a.Load(100+at, n); e == api.OK && (x != y || byte(x) != 0x88+byte(at)) || e != api.OK && x != 0 {
				t.Errorf("Load(%d, %d): %x, of the arena %x", at, n, x, y)
			}
		}
	}
	if s, _ := a.Bytes(0, 100); s != strings.Repeat("\x00", 100) {
		t.Error("something is stored ahead of the view")
	}
	if s, _ := a.Bytes(108, 100); s != strings.Repeat("\x00", 100) {
		t.Error("something is stored behind the view")
	}
}

func TestNumbersThatMayNotBe(t *testing.T) {
	a := two(t)
	v := of(t, a, 5000, 100)
	for _, n := range append(far, 0, 3, 5, 7, 9, 16) {
		for _, at := range []int{0, 99, 100, 101, -1, math.MaxInt, math.MinInt} {
			x, e := v.Load(at, n)
			is(t, "Load", e, api.ErrArg)
			is(t, "Store", v.Store(at, n, 0), api.ErrArg)
			if x != 0 {
				t.Errorf("Load(%d, %d): %d beside an error", at, n, x)
			}
		}
	}
	for _, at := range far {
		_, e := v.Load(at, 1)
		is(t, "Load from afar", e, api.ErrRange)
		is(t, "Store from afar", v.Store(at, 8, 0), api.ErrRange)
	}
	tells(t, "refused", a, marks())
}

// within: do n bytes from a place on lie in a view of 60 bytes?
func within(at, n int) bool {
	return at >= 0 && n >= 0 && at+n <= 60
}

func TestBytesInAndOutOfTheView(t *testing.T) {
	all := marks()
	for at := -3; at <= 63; at++ {
		for n := range 64 {
			a := two(t)
			v := of(t, a, 8160, 60)
			put, filled := strings.Repeat("p", n), strings.Repeat("f", n)
			place, e := 8160-4096+at, api.ErrRange
			told, laid, full := "", all, all
			if within(at, n) {
				e, told = api.OK, all[place:place+n]
				laid, full = all[:place]+put+all[place+n:], all[:place]+filled+all[place+n:]
			}
			s, f := v.Bytes(at, n)
			is(t, "Bytes", f, e)
			if s != told {
				t.Fatalf("Bytes(%d, %d): %q", at, n, s)
			}
			is(t, "Put", v.Put(at, put), e)
			tells(t, "Put", a, laid)
			is(t, "Fill", v.Fill(at, n, 'f'), e)
			tells(t, "Fill", a, full)
		}
	}
}

func TestCopyInAndOutOfTheView(t *testing.T) {
	all := marks()
	for to := -2; to <= 62; to += 4 {
		for from := -2; from <= 62; from += 4 {
			for _, n := range []int{0, 1, 6, 30, 59, 60, 61} {
				a := two(t)
				v := of(t, a, 8160, 60)
				e, wanted := api.ErrRange, all
				if within(to, n) && within(from, n) {
					at, old := 8160-4096+to, 8160-4096+from
					e, wanted = api.OK, all[:at]+all[old:old+n]+all[at+n:]
				}
				is(t, "Copy", v.Copy(to, from, n), e)
				tells(t, "Copy", a, wanted)
			}
		}
	}
}

func TestBytesFromAfar(t *testing.T) {
	a := two(t)
	v := of(t, a, 5000, 100)
	for _, x := range append(far, 101) {
		for _, c := range [][2]int{{x, 0}, {x, 1}, {0, x}, {1, x}, {100, x}, {x, x}} {
			s, e := v.Bytes(c[0], c[1])
			is(t, "Bytes", e, api.ErrRange)
			is(t, "Fill", v.Fill(c[0], c[1], 0), api.ErrRange)
			is(t, "Copy there", v.Copy(c[0], 0, c[1]), api.ErrRange)
			is(t, "Copy from there", v.Copy(0, c[0], c[1]), api.ErrRange)
			is(t, "Copy", v.Copy(c[0], c[0], c[1]), api.ErrRange)
			if s != "" {
				t.Errorf("Bytes(%d, %d): %d bytes beside an error", c[0], c[1], len(s))
			}
		}
		is(t, "Put", v.Put(x, ""), api.ErrRange)
		is(t, "Put", v.Put(x, "x"), api.ErrRange)
	}
	tells(t, "refused", a, marks())
}

func TestBytesThatAreNotThereAnyMore(t *testing.T) {
	a := two(t)
	v := of(t, a, 8000, 300)
	is(t, "Decommit", a.Decommit(2, 1), api.OK)
	for _, c := range [][2]int{{0, 193}, {192, 1}, {191, 8}, {0, 300}} {
		_, e := v.Bytes(c[0], c[1])
		is(t, "Bytes", e, api.ErrRange)
		is(t, "Put", v.Put(c[0], strings.Repeat("x", c[1])), api.ErrRange)
		is(t, "Fill", v.Fill(c[0], c[1], 'x'), api.ErrRange)
		is(t, "Copy", v.Copy(c[0], 0, c[1]), api.ErrRange)
	}
	_, e := v.Load(191, 2)
	is(t, "Load", e, api.ErrRange)
	is(t, "Store", v.Store(191, 2, 0), api.ErrRange)
	is(t, "Texts", Texts(v, strings.Repeat("x", 192), "x"), api.ErrRange)
	if s, _ := a.Bytes(4096, 4096); s != marks()[:4096] {
		t.Error("what was refused has stored something")
	}
	is(t, "Commit", a.Commit(2, 1), api.OK)
	if s, e := v.Bytes(190, 4); e != api.OK || s != marks()[4094:4096]+"\x00\x00" {
		t.Errorf("of a page that came again: %q, error %d", s, e)
	}
}

func TestTexts(t *testing.T) {
	a := two(t)
	v := of(t, a, 8190, 8)
	all := marks()
	for _, parts := range [][]string{nil, {""}, {"a"}, {"ab", "cd"}, {"", "abc", "", "defgh", ""}, {"abcdefgh"}, {"a", "b", "c", "d", "e", "f", "g", "h"}} {
		is(t, "Put", a.Put(4096, all), api.OK)
		is(t, "Texts", Texts(v, parts...), api.OK)
		text := strings.Join(parts, "")
		tells(t, "Texts", a, all[:4094]+text+all[4094+len(text):])
	}
	is(t, "Put", a.Put(4096, all), api.OK)
	for _, parts := range [][]string{{"abcdefghi"}, {"abcdefgh", "i"}, {"ab", "cd", "ef", "gh", "", "i"}, many()} {
		is(t, "Texts", Texts(v, parts...), api.ErrRange)
		tells(t, "Texts that have no room", a, all)
	}
	is(t, "Texts of no bytes", Texts(of(t, a, 16384, 0), "", ""), api.OK)
	is(t, "Texts of no room", Texts(of(t, a, 16384, 0), "", "a"), api.ErrRange)
}

// many: parts that have no room together.
func many() []string {
	parts := make([]string, 24)
	for i := range parts {
		parts[i] = "abc"
	}
	return parts
}

func TestTextsLeaveTheirParts(t *testing.T) {
	v := of(t, two(t), 4096, 100)
	parts := []string{"a", "b", "c"}
	is(t, "Texts", Texts(v, parts[:2]...), api.OK)
	if strings.Join(parts, " ") != "a b c" {
		t.Errorf("the parts are %q", parts)
	}
}

func TestZeroView(t *testing.T) {
	var v View
	if v.At() != 0 || v.Size() != 0 || v.Cap() != 0 || v.Committed() != 0 || v.Has(0) || v.Clone() != nil {
		t.Error("the zero view tells something")
	}
	for _, x := range []int{-1, 0, 1, 3, math.MaxInt, math.MinInt} {
		p, e := v.Part(x, x)
		if e != api.ErrNil || p != (View{}) {
			t.Errorf("Part(%d, %d): error %d", x, x, e)
		}
		n, e := v.Load(x, x)
		s, f := v.Bytes(x, x)
		if n != 0 || s != "" {
			t.Errorf("the zero view has a number %d, and bytes %q", n, s)
		}
		for _, e := range []api.Errno{e, f, v.Store(x, x, 1), v.Put(x, ""), v.Put(x, "a"), v.Fill(x, x, 1), v.Copy(x, x, x), v.Copy(x, 0, 0)} {
			is(t, "of the zero view", e, api.ErrNil)
		}
	}
	is(t, "Texts", Texts(v), api.ErrNil)
	is(t, "Texts", Texts(v, "a", "b"), api.ErrNil)
}

func TestViewsOfTheSameBytesTellTheSame(t *testing.T) {
	a := two(t)
	v, w := of(t, a, 8100, 200), of(t, a, 8000, 200)
	twin, _ := w.Part(100, 100)
	is(t, "Store", v.Store(90, 8, 0x0807060504030201), api.OK)
	is(t, "Put", twin.Put(0, "millpond"), api.OK)
	is(t, "Copy", w.Copy(190, 100, 4), api.OK)
	for at := range 93 {
		x, e := v.Load(at, 8)
		y, f := twin.Load(at, 8)
		z, g := w.Load(100+at, 8)
		if x != y || y != z || e != api.OK || f != api.OK || g != api.OK {
			t.Fatalf("at %d: %x, %x, %x, errors %d, %d, %d", at, x, y, z, e, f, g)
		}
	}
	s, _ := v.Bytes(88, 10)
	if r, _ := w.Bytes(188, 10); s != r || s[2:] != "mill\x05\x06\x07\x08" {
		t.Errorf("%q and %q", s, r)
	}
	all := marks()
	tells(t, "both", a, all[:4004]+"millpond"+all[4012:4094]+"mill\x05\x06\x07\x08"+all[4102:])
}
